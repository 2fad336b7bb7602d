/-
  RunArrays: a word is put and got.
-/
import Derived.Test.YtaomlahphlemdaaGreatDoorRunTr
import Derived.IntWalk
namespace Go.Proofs.YtaomlahphlemdaaGreatDoor
open Go.ChangeShapes Go.WideShapes Go.ChangeAt Go.RowKit
set_option linter.unusedVariables false

theorem inI_wrap (x : Int) : inI (wrap64 x) = true := by unfold inI wrap64; simp only [Bool.and_eq_true, decide_eq_true_eq]; omega
theorem inI_mk {x : Int} (h : InI64 x) : inI x = true := by unfold inI; unfold InI64 at h; simp only [Bool.and_eq_true, decide_eq_true_eq]; exact h
def arO : List Od := [⟨0, 0⟩, ⟨0, 0⟩, ⟨4, 0⟩, ⟨0, 0⟩, ⟨4, 1⟩, ⟨7, 2⟩, ⟨0, 0⟩, ⟨0, 0⟩, ⟨0, 0⟩, ⟨4, 0⟩, ⟨6, 2⟩, ⟨16, 0⟩, ⟨1, 0⟩, ⟨16, 0⟩]
/-- The runner of an array's word, put and got. -/
def arS (i v : Int) (ws : List Int) (next : Nat) (pile : List Int) (steps : Int) (leaks : List Lk) : Rn := ⟨arO, [⟨0, 0, 0⟩], next, pile, [(0, 0)], 100, 0, 0, leaks, steps, 1, [[i], [v], ws], 0, false⟩
theorem ar_ok {i v : Int} {ws : List Int} {next : Nat} {pile : List Int} {steps : Int} {leaks : List Lk} (h1 : pile.all inI = true) (h2 : ws.length ≤ 1000) (h3 : next ≤ 100) (h4 : 0 ≤ steps ∧ steps ≤ 100) (h5 : leaks.length ≤ 100) (h6 : pile.length ≤ 100) : okR (arS i v ws next pile steps leaks) = true := by
  unfold okR
  simp only [arS, h1, Bool.and_eq_true]
  refine ⟨⟨⟨⟨⟨⟨⟨⟨?_, ?_⟩, ?_⟩, ?_⟩, ?_⟩, trivial⟩, ?_⟩, ?_⟩, ?_⟩
  all_goals first | exact decide_eq_true (by omega) | (simp; done) | (simp; omega)
theorem does_put {r : Rn} {o : Int} (h : r.orders[r.next]? = some ⟨7, o⟩) : r.does = ({ r with next := r.next + 1 } : Rn).putItem o := by
  unfold Rn.does
  rw [h]
  rfl
theorem does_got {r : Rn} {o : Int} (h : r.orders[r.next]? = some ⟨6, o⟩) : r.does = ({ r with next := r.next + 1 } : Rn).getItem o := by
  unfold Rn.does
  rw [h]
  rfl
def arZ (i v : Int) (ws : List Int) (val : Int) (leaks : List Lk) : Rn := ⟨arO, [⟨0, 0, 0⟩], 0, [], [], 100, val, 0, leaks, 6, 1, [[i], [v], ws], 0, true⟩
def arT (i v : Int) (ws : List Int) : Rn := ⟨arO, [⟨0, 0, 0⟩], 6, [], [(0, 0)], 100, 0, 1, [⟨1, 0, 0⟩], 3, 1, [[i], [v], ws], 0, true⟩
theorem ar_to (i v : Int) (ws : List Int) (hw : ws.length ≤ 1000) (hi : InI64 i) (hv : InI64 v) : Hop (arS i v ws 0 [] 0 []) (arS i v ws 5 [i, v] 3 []) := by
  have qi := inI_mk hi
  have qv := inI_mk hv
  have s1 : Hop (arS i v ws 0 [] 0 []) (arS i v ws 1 [] 1 []) := Hop.one rfl (ar_ok rfl hw (by omega) (by omega) (by simp) (by simp)) rfl
  have s2 : Hop (arS i v ws 1 [] 1 []) (arS i v ws 2 [] 2 []) := Hop.one rfl (ar_ok rfl hw (by omega) (by omega) (by simp) (by simp)) rfl
  have s3 : Hop (arS i v ws 2 [] 2 []) (arS i v ws 3 [i] 2 []) := Hop.one rfl (ar_ok rfl hw (by omega) (by omega) (by simp) (by simp)) rfl
  have s4 : Hop (arS i v ws 3 [i] 2 []) (arS i v ws 4 [i] 3 []) := Hop.one rfl (ar_ok (by simp [qi]) hw (by omega) (by omega) (by simp) (by simp)) rfl
  have s5 : Hop (arS i v ws 4 [i] 3 []) (arS i v ws 5 [i, v] 3 []) := Hop.one rfl (ar_ok (by simp [qi]) hw (by omega) (by omega) (by simp) (by simp)) rfl
  exact s1.trans (s2.trans (s3.trans (s4.trans s5)))
/-- Beyond the array. -/
theorem ar_out (i v : Int) (ws : List Int) (hw : ws.length ≤ 1000) (hi : InI64 i) (hv : InI64 v) (hn : ¬ (0 ≤ i ∧ i < ws.length)) : ∃ k, goes k (arS i v ws 0 [] 0 []) = some (arT i v ws) := by
  have qi := inI_mk hi
  have qv := inI_mk hv
  have hin : inW i ws.length = false := by unfold inW; simp; omega
  have d1 : (arS i v ws 5 [i, v] 3 []).does = some (arT i v ws) := by
    rw [does_put (o := 2) rfl]
    show (if inW i ws.length then _ else some _) = _
    rw [hin]
    show some (Rn.within _ ws.length i) = _
    unfold Rn.within
    rw [hin]
    rfl
  refine (ar_to i v ws hw hi hv).goes (n := 1) ?_
  rw [goes, if_neg (by simp [arS]), if_pos (ar_ok (by simp [qi, qv]) hw (by omega) (by omega) (by simp) (by simp)), d1]
  rfl
/-- Within it. -/
theorem ar_in (v : Int) (j : Nat) (ws : List Int) (hw : ws.length ≤ 1000) (hv : InI64 v) (hj : j < ws.length) : ∃ k, goes k (arS j v ws 0 [] 0 []) = some (arZ j v (ws.set j v) v [⟨1, 1, 0⟩, ⟨2, j, 0⟩, ⟨1, 1, 0⟩, ⟨2, j, 0⟩]) := by
  have hi : InI64 (j : Int) := ⟨by omega, by omega⟩
  have qi := inI_mk hi
  have qv := inI_mk hv
  have hin : inW (j : Int) ws.length = true := by unfold inW; simp; omega
  have hlen : (ws.set j v).length = ws.length := List.length_set ..
  have hin2 : inW (j : Int) (ws.set j v).length = true := by rw [hlen]; exact hin
  have hw2 : (ws.set j v).length ≤ 1000 := by rw [hlen]; exact hw
  have hget : (ws.set j v).getD j 0 = v := by simp [List.getD, hj]
  have d1 : (arS j v ws 5 [(j : Int), v] 3 []).does = some (arS j v (ws.set j v) 6 [] 3 [⟨1, 1, 0⟩, ⟨2, j, 0⟩]) := by
    rw [does_put (o := 2) rfl]
    show (if inW (j : Int) ws.length then some (Rn.setMem (Rn.within _ ws.length (j : Int)) _ _ _) else _) = _
    rw [hin]
    unfold Rn.within
    rw [hin]
    rfl
  have s6 : Hop (arS j v (ws.set j v) 6 [] 3 [⟨1, 1, 0⟩, ⟨2, j, 0⟩]) (arS j v (ws.set j v) 7 [] 4 [⟨1, 1, 0⟩, ⟨2, j, 0⟩]) := Hop.one rfl (ar_ok rfl hw2 (by omega) (by omega) (by simp) (by simp)) rfl
  have s7 : Hop (arS j v (ws.set j v) 7 [] 4 [⟨1, 1, 0⟩, ⟨2, j, 0⟩]) (arS j v (ws.set j v) 8 [] 5 [⟨1, 1, 0⟩, ⟨2, j, 0⟩]) := Hop.one rfl (ar_ok rfl hw2 (by omega) (by omega) (by simp) (by simp)) rfl
  have s8 : Hop (arS j v (ws.set j v) 8 [] 5 [⟨1, 1, 0⟩, ⟨2, j, 0⟩]) (arS j v (ws.set j v) 9 [] 6 [⟨1, 1, 0⟩, ⟨2, j, 0⟩]) := Hop.one rfl (ar_ok rfl hw2 (by omega) (by omega) (by simp) (by simp)) rfl
  have s9 : Hop (arS j v (ws.set j v) 9 [] 6 [⟨1, 1, 0⟩, ⟨2, j, 0⟩]) (arS j v (ws.set j v) 10 [(j : Int)] 6 [⟨1, 1, 0⟩, ⟨2, j, 0⟩]) := Hop.one rfl (ar_ok rfl hw2 (by omega) (by omega) (by simp) (by simp)) rfl
  have d2 : (arS j v (ws.set j v) 10 [(j : Int)] 6 [⟨1, 1, 0⟩, ⟨2, j, 0⟩]).does = some (arS j v (ws.set j v) 11 [v] 6 [⟨1, 1, 0⟩, ⟨2, j, 0⟩, ⟨1, 1, 0⟩, ⟨2, j, 0⟩]) := by
    rw [does_got (o := 2) rfl]
    show (if inW (j : Int) (ws.set j v).length then some (Rn.lay (Rn.within _ (ws.set j v).length (j : Int)) ((ws.set j v).getD (j : Int).toNat 0)) else _) = _
    rw [hin2]
    unfold Rn.within
    rw [hin2, Int.toNat_natCast, hget]
    rfl
  have q1 := (ar_to j v ws hw hi hv).trans (Hop.one rfl (ar_ok (by simp [qi, qv]) hw (by omega) (by omega) (by simp) (by simp)) d1)
  have q2 := q1.trans (s6.trans (s7.trans (s8.trans (s9.trans (Hop.one rfl (ar_ok (by simp [qi]) hw2 (by omega) (by omega) (by simp) (by simp)) d2)))))
  refine q2.goes (n := 1) ?_
  rw [goes, if_neg (by simp [arS]), if_pos (ar_ok (by simp [qv]) hw2 (by omega) (by omega) (by simp) (by simp))]
  rfl
def xVar (x : List UInt8) : Ex := .mk 3 0 0 0 x 0 []
def arP (z : Int) : Pr := ⟨[⟨[105], 1, 0, 0, 0⟩, ⟨[118], 2, 0, 0, 0⟩, ⟨[104], 0, z, 0, 0⟩], [⟨[109, 97, 105, 110], [], [.mk 3 0 0 [104] [xVar [105], xVar [118]] [] [], .mk 6 0 0 [] [.mk 4 0 0 0 [104] 0 [xVar [105]]] [] []], 0, 0⟩]⟩
/-- What RunArrays lays ahead of Run. -/
def arL (z i v : Int) (n : Nat) : List Obj :=
  [.cells #[.int .i64 3, .int .i64 0, .int .i64 0, .int .i64 0, .string ⟨#[105]⟩, .int .i64 0, .slice none 0 0] 47,
   .cells #[.string ⟨#[105]⟩, .int .i64 1, .int .i64 0, .int .i64 0, .int .i64 0, .string ⟨#[118]⟩, .int .i64 2, .int .i64 0, .int .i64 0, .int .i64 0, .string ⟨#[104]⟩, .int .i64 0, .int .i64 z, .int .i64 0, .int .i64 0] 51,
   .cells #[.int .i64 3, .int .i64 0, .int .i64 0, .int .i64 0, .string ⟨#[105]⟩, .int .i64 0, .slice none 0 0, .int .i64 3, .int .i64 0, .int .i64 0, .int .i64 0, .string ⟨#[118]⟩, .int .i64 0, .slice none 0 0] 47,
   .cells #[.int .i64 3, .int .i64 0, .int .i64 0, .int .i64 0, .string ⟨#[105]⟩, .int .i64 0, .slice none 0 0] 47,
   .cells #[.int .i64 4, .int .i64 0, .int .i64 0, .int .i64 0, .string ⟨#[104]⟩, .int .i64 0, .slice (some ⟨n + 3, 0, none⟩) 1 1] 47,
   .cells #[.int .i64 3, .int .i64 0, .int .i64 0, .string ⟨#[104]⟩, .slice (some ⟨n + 2, 0, none⟩) 2 2, .slice none 0 0, .slice none 0 0, .int .i64 6, .int .i64 0, .int .i64 0, .string ⟨#[]⟩, .slice (some ⟨n + 4, 0, none⟩) 1 1, .slice none 0 0, .slice none 0 0] 55,
   .cells #[.string ⟨#[109, 97, 105, 110]⟩, .slice none 0 0, .slice (some ⟨n + 5, 0, none⟩) 2 2, .int .i64 0, .int .i64 0] 58,
   .cells #[.slice (some ⟨n + 1, 0, none⟩) 3 3, .slice (some ⟨n + 6, 0, none⟩) 1 1] 25,
   .cells #[.int .i64 i] 2,
   .cells #[.int .i64 v] 2,
   .cells #[.slice (some ⟨n + 8, 0, none⟩) 1 1, .slice (some ⟨n + 9, 0, none⟩) 1 1] 59]
theorem arP_at (z i v : Int) (w : World) : (arP z).At ((arL z i v w.heap.size).foldl World.alloc w) (· < ((arL z i v w.heap.size).foldl World.alloc w).heap.size) #[.slice (some ⟨w.heap.size + 1, 0, none⟩) 3 3, .slice (some ⟨w.heap.size + 6, 0, none⟩) 1 1] := by
  have h := laid_at (arL z i v w.heap.size) w
  generalize (arL z i v w.heap.size).foldl World.alloc w = W at *
  have h1 := h 1 _ rfl; have h2 := h 2 _ rfl; have h3 := h 3 _ rfl; have h4 := h 4 _ rfl; have h5 := h 5 _ rfl; have h6 := h 6 _ rfl
  have lt : ∀ {q : Nat} {x : Obj}, W.heap[q]? = some x → q < W.heap.size := fun hq => (Array.getElem?_eq_some_iff.1 hq).1
  have z0 : InI64 0 := ⟨by decide, by decide⟩
  have hx : (Ex.mk 4 0 0 0 [104] 0 [xVar [105]]).At W (· < W.heap.size) (cells7 4 0 0 0 [104] 0 (.slice (some ⟨w.heap.size + 3, 0, none⟩) 1 1)) := by
    unfold Ex.At
    exact ⟨z0, z0, _, rfl, .inr ⟨_, 1, rfl⟩, kids_sole (e := xVar [105]) (cs := cells7 3 0 0 0 [105] 0 (.slice none 0 0)) h3 (lt h3) (ex_leaf 3 [105] 0 z0)⟩
  refine ⟨_, _, rfl, gls_lay h1 (lt h1) (by simp [arP]) (by simp [arP]) ?_, fns_lay h6 (lt h6) ⟨_, _, rfl, .inl ⟨rfl, none, 0, rfl⟩,
    body_pair (ca := cellsS 3 0 0 [104] (.slice (some ⟨w.heap.size + 2, 0, none⟩) 2 2) (.slice none 0 0) (.slice none 0 0)) (cb := cellsS 6 0 0 [] (.slice (some ⟨w.heap.size + 4, 0, none⟩) 1 1) (.slice none 0 0) (.slice none 0 0)) h5 rfl (lt h5)
      (sm_at (kids_pair (ca := cells7 3 0 0 0 [105] 0 (.slice none 0 0)) (cb := cells7 3 0 0 0 [118] 0 (.slice none 0 0)) h2 rfl (lt h2) (ex_leaf 3 [105] 0 z0) (ex_leaf 3 [118] 0 z0)) (.inl ⟨rfl, none, 0, rfl⟩) (.inl ⟨rfl, none, 0, rfl⟩))
      (sm_at (kids_sole h4 (lt h4) hx) (.inl ⟨rfl, none, 0, rfl⟩) (.inl ⟨rfl, none, 0, rfl⟩))⟩⟩
  intro j x hj i hi
  have hi2 : i = 0 ∨ i = 1 ∨ i = 2 ∨ i = 3 ∨ i = 4 := by omega
  have hj2 : j = 0 ∨ j = 1 ∨ j = 2 := by have := (List.getElem?_eq_some_iff.1 hj).1; simp [arP] at this; omega
  rcases hj2 with rfl | rfl | rfl
  · obtain rfl : (⟨[105], 1, 0, 0, 0⟩ : Gl) = x := by simpa [arP] using hj
    rcases hi2 with rfl | rfl | rfl | rfl | rfl <;> rfl
  · obtain rfl : (⟨[118], 2, 0, 0, 0⟩ : Gl) = x := by simpa [arP] using hj
    rcases hi2 with rfl | rfl | rfl | rfl | rfl <;> rfl
  · obtain rfl : (⟨[104], 0, z, 0, 0⟩ : Gl) = x := by simpa [arP] using hj
    rcases hi2 with rfl | rfl | rfl | rfl | rfl <;> rfl
theorem arP_in (z a b : Int) (w : World) : InsAt ((arL z a b w.heap.size).foldl World.alloc w) (· < ((arL z a b w.heap.size).foldl World.alloc w).heap.size) [[a], [b]] (.slice (some ⟨w.heap.size + 10, 0, none⟩) 2 2) := by
  have h := laid_at (arL z a b w.heap.size) w
  generalize (arL z a b w.heap.size).foldl World.alloc w = W at *
  have h8 := h 8 _ rfl; have h9 := h 9 _ rfl; have h10 := h 10 _ rfl
  refine insAt_rows (ins := [[a], [b]]) [w.heap.size + 8, w.heap.size + 9] rfl (by simp) h10 (fun i x ws h1 h2 => ?_)
  have hi2 : i = 0 ∨ i = 1 := by have := (List.getElem?_eq_some_iff.1 h2).1; simp at this; omega
  rcases hi2 with rfl | rfl
  · obtain rfl : w.heap.size + 8 = x := by simpa using h1
    obtain rfl : [a] = ws := by simpa using h2
    exact ⟨h8, by simp⟩
  · obtain rfl : w.heap.size + 9 = x := by simpa using h1
    obtain rfl : [b] = ws := by simpa using h2
    exact ⟨h9, by simp⟩
def arAll (f : Nat → Bool) : Bool := (List.range 128).all f
theorem arAll_of {f : Nat → Bool} (h : arAll f = true) {m : Nat} (hm : m < 128) : f m = true := List.all_eq_true.1 h m (List.mem_range.2 hm)
set_option maxRecDepth 100000 in
theorem arP_fit : arAll (fun m => prFit (arP ((m + 1 : Nat) : Int))) = true := by kernel_rfl
theorem arP_good (z : Int) : prGood (arP z) = true := rfl
set_option maxRecDepth 100000 in
theorem arP_ck : arAll (fun m => decide ((ckProg (arP ((m + 1 : Nat) : Int))).err = 0)) = true := by kernel_rfl
set_option maxRecDepth 100000 in
theorem arP_m : arAll (fun m => decide ((look (ckProg (arP ((m + 1 : Nat) : Int))).fm mainL).getD 0 = 0)) = true := by kernel_rfl
def eqO : List Od → List Od → Bool
  | [], [] => true
  | ⟨a, b⟩ :: r, ⟨c, d⟩ :: s => decide (a = c) && (decide (b = d) && eqO r s)
  | _, _ => false
theorem eqO_of : ∀ {l m : List Od}, eqO l m = true → l = m
  | [], [], _ => rfl
  | ⟨a, b⟩ :: r, ⟨c, d⟩ :: s, h => by
    rw [eqO, Bool.and_eq_true, Bool.and_eq_true, decide_eq_true_eq, decide_eq_true_eq] at h
    obtain ⟨rfl, rfl, h⟩ := h
    rw [eqO_of h]
  | [], _ :: _, h => by cases h
  | _ :: _, [], h => by cases h
def eqB : List Bo → List Bo → Bool
  | [], [] => true
  | ⟨a, b, e⟩ :: r, ⟨c, d, f⟩ :: s => decide (a = c) && (decide (b = d) && (decide (e = f) && eqB r s))
  | _, _ => false
theorem eqB_of : ∀ {l m : List Bo}, eqB l m = true → l = m
  | [], [], _ => rfl
  | ⟨a, b, e⟩ :: r, ⟨c, d, f⟩ :: s, h => by
    rw [eqB, Bool.and_eq_true, Bool.and_eq_true, Bool.and_eq_true, decide_eq_true_eq, decide_eq_true_eq, decide_eq_true_eq] at h
    obtain ⟨rfl, rfl, rfl, h⟩ := h
    rw [eqB_of h]
  | [], _ :: _, h => by cases h
  | _ :: _, [], h => by cases h
set_option maxRecDepth 100000 in
theorem arP_o : arAll (fun m => eqO (planOf (arP ((m + 1 : Nat) : Int)) (ckProg (arP ((m + 1 : Nat) : Int))).gm (ckProg (arP ((m + 1 : Nat) : Int))).fm).orders arO && eqB (planOf (arP ((m + 1 : Nat) : Int)) (ckProg (arP ((m + 1 : Nat) : Int))).gm (ckProg (arP ((m + 1 : Nat) : Int))).fm).bodies [⟨0, 0, 0⟩]) = true := by kernel_rfl
theorem ar_start (i v : Int) (m : Nat) (hm : m < 128) : startL (arP ((m + 1 : Nat) : Int)).globals [[i], [v]] = [[i], [v], List.replicate (m + 1) 0] := by
  have h : (min (max ((m + 1 : Nat) : Int) 1) 4096).toNat = m + 1 := by omega
  show [fillL 1 [i], fillL 1 [v], List.replicate (gz ⟨[104], 0, ((m + 1 : Nat) : Int), 0, 0⟩) 0] = _
  unfold gz
  rw [h]
  rfl
theorem ar_into (i v : Int) (m : Nat) (hm : m < 128) : (rn0 (arP ((m + 1 : Nat) : Int)) [[i], [v]] 100).into ((look (ckProg (arP ((m + 1 : Nat) : Int))).fm mainL).getD 0) = some (arS i v (List.replicate (m + 1) 0) 0 [] 0 []) := by
  have ho := arAll_of arP_o hm
  rw [Bool.and_eq_true] at ho
  have hmn := of_decide_eq_true (arAll_of arP_m hm)
  unfold rn0
  rw [eqO_of ho.1, eqB_of ho.2, hmn, ar_start i v m hm]
  rfl
theorem ar_run {i v : Int} {m : Nat} (hm : m < 128) {z : Rn} (h : ∃ k, goes k (arS i v (List.replicate (m + 1) 0) 0 [] 0 []) = some z) : ∃ k, runL (arP ((m + 1 : Nat) : Int)) [[i], [v]] 100 k = some z := by
  obtain ⟨k, hk⟩ := h
  exact ⟨k, runL_of (ar_into i v m hm) hk⟩
set_option maxHeartbeats 4000000 in
set_option maxRecDepth 100000 in
theorem arrays_core (size i v : Int) (m : Nat) (hm : m < 128) (hs : bits .and .i64 size 127 = (m : Int)) (hi : InI64 i) (hv : InI64 v) (w : World) (hg : Ground w) :
    Calls Tryz.prog 5 #[.int .i64 size, .int .i64 i, .int .i64 v] w fun e w' => e = .returned (.bool true) ∧ Below w.heap.size w w' := by
  have HG := Lib.hid hg; have HI := Lib.hid hi; have HV := Lib.hid hv
  have HS := Lib.hid (show wrap64 (1 + bits BinOp.and IntKind.i64 size 127) = ((m + 1 : Nat) : Int) by rw [hs]; unfold wrap64; omega)
  clear hg hi hv hs
  go_enter Tryz.func5, Tryz.ntmps5
  go_wp2_with (fail)
  refine (head6_any _ HG.out).mono ?_
  rintro e w0 ⟨rfl, hg0⟩
  have HG0 := Lib.hid hg0
  clear hg0
  go_wp2_with (fail)
  rw [HS.out]
  clear HS
  have HAT := Lib.hid (arP_at ((m + 1 : Nat) : Int) i v w0); have HIN := Lib.hid (arP_in ((m + 1 : Nat) : Int) i v w0); have HGL := Lib.hid (laid_grown (arL ((m + 1 : Nat) : Int) i v w0.heap.size) w0)
  change Calls Tryz.prog 13 #[.agg #[.slice (some ⟨w0.heap.size + 1, 0, none⟩) 3 3, .slice (some ⟨w0.heap.size + 6, 0, none⟩) 1 1], .slice (some ⟨w0.heap.size + 10, 0, none⟩) 2 2, .int .i64 100] ((arL ((m + 1 : Nat) : Int) i v w0.heap.size).foldl World.alloc w0) _
  generalize (arL ((m + 1 : Nat) : Int) i v w0.heap.size).foldl World.alloc w0 = W2 at *
  have HG2 := Lib.hid (grown_trans HG0.out HGL.out)
  clear HGL
  have HFIT := Lib.hid (arAll_of arP_fit hm); have HGD := Lib.hid (arP_good ((m + 1 : Nat) : Int)); have HCK := Lib.hid (of_decide_eq_true (arAll_of arP_ck hm))
  have hlen : (List.replicate (m + 1) (0 : Int)).length = m + 1 := List.length_replicate
  by_cases hin : 0 ≤ i ∧ i < ((m + 1 : Nat) : Int)
  · obtain ⟨j, rfl⟩ := Int.eq_ofNat_of_zero_le hin.1
    have hj : j < m + 1 := by omega
    obtain ⟨k, hk⟩ := ar_run hm (ar_in v j (List.replicate (m + 1) 0) (by rw [hlen]; omega) HV.out (by rw [hlen]; omega))
    refine (run_good HFIT.out HGD.out HCK.out (by simp [arP]) HAT.out [[(j : Int)], [v]] _ HIN.out 100 k _ hk).mono ?_
    rintro e w3 ⟨hg3, hr3⟩
    rcases hr3 with ⟨h, _⟩ | ⟨_, rs, rfl, hrs⟩
    · exact absurd rfl h
    obtain ⟨⟨lv, mg, gs, rfl, hlv, hmem⟩⟩ := hrs
    have HL := Lib.hid (lksAt_own hlv)
    obtain ⟨la, lcap, rfl, _⟩ := own_slice hlv
    have HG3 := Lib.hid (grown_trans HG2.out hg3)
    dsimp only [arZ, List.length_nil, List.length_cons] at HL hmem ⊢
    have hgl : gs.length = 3 := hmem.same
    obtain ⟨g0, g1, g2, rfl⟩ : ∃ a b c, gs = [a, b, c] := by
      match gs, hgl with
      | [a, b, c], _ => exact ⟨a, b, c, rfl⟩
    have hr2 := hmem.row
    have hw2 := hmem.words 2 g2 _ rfl rfl
    have hlm : mg < w3.heap.size := (Array.getElem?_eq_some_iff.1 hr2).1
    have hlg : g2 < w3.heap.size := (Array.getElem?_eq_some_iff.1 hw2).1
    have hws : ((List.replicate (m + 1) (0 : Int)).set j v).length = m + 1 := by rw [List.length_set, hlen]
    have c2 : w3.cell? ⟨mg, 2, none⟩ = some (.slice (some ⟨g2, 0, none⟩) (m + 1) (m + 1)) := by
      rw [Lib.cell_of_heap hr2, List.getElem?_toArray, List.getElem?_append_left (by rw [memCells_length rfl]; show 2 < 3; decide), memCells_get (g := g2) (ws := (List.replicate (m + 1) (0 : Int)).set j v) rfl rfl, hws]
    have c3 : w3.cell? ⟨g2, j, none⟩ = some (.int .i64 v) := by
      rw [Lib.cell_of_heap hw2, List.getElem?_toArray, List.getElem?_map, List.getElem?_set_self (by rw [hlen]; exact hj)]
      rfl
    clear hg3 hmem hlv hk hgl hr2 hw2 hlen hws
    clear HAT HIN HFIT HGD HCK hin hm
    generalize m + 1 = M at *
    have q0 : decide ((j : Int) < 0) = false := by simp
    have q2 : decide ((M : Int) ≤ (j : Int)) = false := by simp; omega
    have q1 : (v == v) = true := by simp
    dsimp only [List.length_nil, List.length_cons]
    go_upto_region 13 with (fail)
    have hgW : w3.grownBy (((w3.alloc (.cells #[.int .i64 v, .int .i64 0, .slice la 4 lcap, .int .i64 6, .int .i64 1, .slice (some ⟨mg, 0, none⟩) 3 3] 33)).alloc (.cells #[.int .i64 1, .int .i64 1, .int .i64 0] 64)).alloc (.cells #[.int .i64 2, .int .i64 (j : Int), .int .i64 0] 64)) none := grown_trans (grown_trans (grown_alloc _ _) (grown_alloc _ _)) (grown_alloc _ _)
    have hzW : (((w3.alloc (.cells #[.int .i64 v, .int .i64 0, .slice la 4 lcap, .int .i64 6, .int .i64 1, .slice (some ⟨mg, 0, none⟩) 3 3] 33)).alloc (.cells #[.int .i64 1, .int .i64 1, .int .i64 0] 64)).alloc (.cells #[.int .i64 2, .int .i64 (j : Int), .int .i64 0] 64)).heap.size = w3.heap.size + 1 + 1 + 1 := by simp
    have hb0 : (((w3.alloc (.cells #[.int .i64 v, .int .i64 0, .slice la 4 lcap, .int .i64 6, .int .i64 1, .slice (some ⟨mg, 0, none⟩) 3 3] 33)).alloc (.cells #[.int .i64 1, .int .i64 1, .int .i64 0] 64)).alloc (.cells #[.int .i64 2, .int .i64 (j : Int), .int .i64 0] 64)).heap[w3.heap.size]? = some (.cells #[.int .i64 v, .int .i64 0, .slice la 4 lcap, .int .i64 6, .int .i64 1, .slice (some ⟨mg, 0, none⟩) 3 3] 33 (0, 0)) := alloc_past _ _ _ _ (by simp; omega) (alloc_past _ _ _ _ (by simp) (alloc_at _ _ _ rfl))
    have hb1 : (((w3.alloc (.cells #[.int .i64 v, .int .i64 0, .slice la 4 lcap, .int .i64 6, .int .i64 1, .slice (some ⟨mg, 0, none⟩) 3 3] 33)).alloc (.cells #[.int .i64 1, .int .i64 1, .int .i64 0] 64)).alloc (.cells #[.int .i64 2, .int .i64 (j : Int), .int .i64 0] 64)).heap[w3.heap.size + 1]? = some (.cells #[.int .i64 1, .int .i64 1, .int .i64 0] 64 (0, 0)) := alloc_past _ _ _ _ (by simp) (alloc_at _ _ _ (by simp))
    have hb2 : (((w3.alloc (.cells #[.int .i64 v, .int .i64 0, .slice la 4 lcap, .int .i64 6, .int .i64 1, .slice (some ⟨mg, 0, none⟩) 3 3] 33)).alloc (.cells #[.int .i64 1, .int .i64 1, .int .i64 0] 64)).alloc (.cells #[.int .i64 2, .int .i64 (j : Int), .int .i64 0] 64)).heap[w3.heap.size + 1 + 1]? = some (.cells #[.int .i64 2, .int .i64 (j : Int), .int .i64 0] 64 (0, 0)) := alloc_at _ _ _ (by simp)
    have d2 := (World.cell?_of_block (a := ⟨mg, 2, none⟩) (hgW.block mg hlm (by simp))).trans c2
    have d3 := (World.cell?_of_block (a := ⟨g2, j, none⟩) (hgW.block g2 hlg (by simp))).trans c3
    generalize (((w3.alloc (.cells #[.int .i64 v, .int .i64 0, .slice la 4 lcap, .int .i64 6, .int .i64 1, .slice (some ⟨mg, 0, none⟩) 3 3] 33)).alloc (.cells #[.int .i64 1, .int .i64 1, .int .i64 0] 64)).alloc (.cells #[.int .i64 2, .int .i64 (j : Int), .int .i64 0] 64)) = W at *
    have HLW := Lib.hid (HL.out.keep hgW); have HGW := Lib.hid (grown_trans HG3.out hgW)
    obtain ⟨⟨r0, r1, r2, r3, r4, r5⟩, _⟩ := six hb0
    obtain ⟨⟨y0, y1, y2⟩, _, _, _⟩ := three hb1
    obtain ⟨⟨z0, z1, z2⟩, _, _, _⟩ := three hb2
    clear hgW hb0 hb1 hb2 c2 c3 hlm hlg HL HG3
    go_wp2_with (fail)
    have hl1 := HLW.out.keep (grown_alloc W (.cells #[.int .i64 1, .int .i64 1, .int .i64 0, .int .i64 2, .int .i64 (j : Int), .int .i64 0, .int .i64 1, .int .i64 1, .int .i64 0, .int .i64 2, .int .i64 (j : Int), .int .i64 0] 64))
    have hl2 : LksAt (W.alloc (.cells #[.int .i64 1, .int .i64 1, .int .i64 0, .int .i64 2, .int .i64 (j : Int), .int .i64 0, .int .i64 1, .int .i64 1, .int .i64 0, .int .i64 2, .int .i64 (j : Int), .int .i64 0] 64)) [⟨1, 1, 0⟩, ⟨2, j, 0⟩, ⟨1, 1, 0⟩, ⟨2, j, 0⟩] (.slice (some ⟨w3.heap.size + 1 + 1 + 1, 0, none⟩) 4 4) := lksAt_cells (alloc_at _ _ _ hzW.symm) rfl (Nat.le_refl _)
    refine (same_yes hl1 hl2 (by simp)).mono ?_
    rintro e w5 ⟨rfl, hg5⟩
    have HG5 := Lib.hid (grown_trans (grown_trans HGW.out (grown_alloc _ _)) hg5)
    clear hl1 hl2 hg5
    go_wp2_with (fail)
    go_ret
    exact ⟨rfl, below_grown HG5.out (Nat.le_refl _)⟩
  · obtain ⟨k, hk⟩ := ar_run hm (ar_out i v (List.replicate (m + 1) 0) (by rw [hlen]; omega) HI.out HV.out (by rw [hlen]; exact hin))
    refine (run_good HFIT.out HGD.out HCK.out (by simp [arP]) HAT.out [[i], [v]] _ HIN.out 100 k _ hk).mono ?_
    rintro e w3 ⟨hg3, hr3⟩
    rcases hr3 with ⟨h, _⟩ | ⟨_, rs, rfl, hrs⟩
    · exact absurd rfl h
    obtain ⟨⟨lv, mg, gs, rfl, hlv, hmem⟩⟩ := hrs
    have HL := Lib.hid (lksAt_own hlv)
    obtain ⟨la, lcap, rfl, _⟩ := own_slice hlv
    have HG3 := Lib.hid (grown_trans HG2.out hg3)
    dsimp only [arT, List.length_nil, List.length_cons] at HL ⊢
    clear hg3 hmem hlv hk hlen HAT HIN HFIT HGD HCK hm
    generalize m + 1 = M at *
    have hin2 : i < 0 ∨ (¬ i < 0 ∧ (M : Int) ≤ i) := by omega
    clear hin
    have hg4 := grown_alloc w3 (.cells #[.int .i64 0, .int .i64 1, .slice la 1 lcap, .int .i64 3, .int .i64 1, .slice (some ⟨mg, 0, none⟩) gs.length gs.length] 33)
    have hz4 : (w3.alloc (.cells #[.int .i64 0, .int .i64 1, .slice la 1 lcap, .int .i64 3, .int .i64 1, .slice (some ⟨mg, 0, none⟩) gs.length gs.length] 33)).heap.size = w3.heap.size + 1 := by simp
    have HZ := Lib.hid hz4; have HG4 := Lib.hid hg4
    clear hz4 hg4
    rcases hin2 with hlo | ⟨hlo, hhi⟩
    · have q0 : decide (i < 0) = true := by simpa using hlo
      go_wp2_with (fail)
      generalize w3.alloc (.cells #[.int .i64 0, .int .i64 1, .slice la 1 lcap, .int .i64 3, .int .i64 1, .slice (some ⟨mg, 0, none⟩) gs.length gs.length] 33) = W4 at *
      have hl1 := (HL.out.keep HG4.out).keep (grown_alloc W4 (.cells #[.int .i64 1, .int .i64 0, .int .i64 0] 64))
      have hl2 : LksAt (W4.alloc (.cells #[.int .i64 1, .int .i64 0, .int .i64 0] 64)) [⟨1, 0, 0⟩] (.slice (some ⟨w3.heap.size + 1, 0, none⟩) 1 1) := lksAt_cells (alloc_at _ _ _ HZ.out.symm) rfl (Nat.le_refl _)
      refine (same_yes hl1 hl2 (by simp)).mono ?_
      rintro e w5 ⟨rfl, hg5⟩
      have HG5 := Lib.hid (grown_trans (grown_trans (grown_trans HG3.out HG4.out) (grown_alloc _ _)) hg5)
      clear hl1 hl2 hg5
      go_wp2_with (fail)
      go_ret
      exact ⟨rfl, below_grown HG5.out (Nat.le_refl _)⟩
    · have q0 : decide (i < 0) = false := by simpa using hlo
      have q1 : decide ((M : Int) ≤ i) = true := by simpa using hhi
      go_wp2_with (fail)
      generalize w3.alloc (.cells #[.int .i64 0, .int .i64 1, .slice la 1 lcap, .int .i64 3, .int .i64 1, .slice (some ⟨mg, 0, none⟩) gs.length gs.length] 33) = W4 at *
      have hl1 := (HL.out.keep HG4.out).keep (grown_alloc W4 (.cells #[.int .i64 1, .int .i64 0, .int .i64 0] 64))
      have hl2 : LksAt (W4.alloc (.cells #[.int .i64 1, .int .i64 0, .int .i64 0] 64)) [⟨1, 0, 0⟩] (.slice (some ⟨w3.heap.size + 1, 0, none⟩) 1 1) := lksAt_cells (alloc_at _ _ _ HZ.out.symm) rfl (Nat.le_refl _)
      refine (same_yes hl1 hl2 (by simp)).mono ?_
      rintro e w5 ⟨rfl, hg5⟩
      have HG5 := Lib.hid (grown_trans (grown_trans (grown_trans HG3.out HG4.out) (grown_alloc _ _)) hg5)
      clear hl1 hl2 hg5
      go_wp2_with (fail)
      go_ret
      exact ⟨rfl, below_grown HG5.out (Nat.le_refl _)⟩
end Go.Proofs.YtaomlahphlemdaaGreatDoor
