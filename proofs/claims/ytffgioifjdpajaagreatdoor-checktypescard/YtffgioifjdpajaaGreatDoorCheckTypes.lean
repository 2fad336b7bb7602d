/-
  CheckTypes answers true for every op and every two sides, for any integers: of each op the types of its sides and its own are as the document says. No condition.
-/
import Derived.Test.YtffgioifjdpajaaGreatDoorTie
import Derived.Test.YtffgioifjdpajaaGreatDoorCards
import Derived.Test.YtffgioifjdpajaaGreatDoorChkU
import Derived.Test.YtffgioifjdpajaaGreatDoorMask
import Derived.Test.YtffgioifjdpajaaGreatDoorLd
import Derived.Deep.CutBlock
import Derived.ProofKit
import Derived.LaidMore
import Derived.OpenShut
import Derived.ShutString
import Derived.SliceStrings
import Derived.Stop.Joined
import Derived.SevenTiedAt
namespace Go.Proofs.YtffgioifjdpajaaGreatDoor.checkTypes
open Go.ChangeShapes Go.WideShapes Go.ChangeAt Go.WideMaps Go.WideElems Go.RowKit
open Go.ChangeMaps (open_string shut_string)
set_option linter.unusedVariables false

def tyKd : Nat → Int
  | 0 => 1 | 1 => 2 | 2 => 3 | 3 => 4 | 4 => 5 | _ => 9
def tyNum (k : Nat) : Int := if k < 2 then 1 else 0
def tyName : Nat → List UInt8
  | 2 => [103] | 3 => [104] | 4 => [102] | _ => []
def tyKids : Nat → List Ex
  | 3 => [.mk 1 0 0 0 [] 0 []] | 4 => [.mk 1 0 0 0 [] 0 []] | 5 => [.mk 2 0 0 0 [] 0 []] | _ => []
def tyLen : Nat → Nat
  | 3 => 1 | 4 => 1 | 5 => 1 | _ => 0
def tyA (B : Nat) : Nat → Option Addr
  | 3 => some ⟨B, 0, none⟩ | 4 => some ⟨B + 1, 0, none⟩ | 5 => some ⟨B + 1 + 1, 0, none⟩ | _ => none
def tyEx (k : Nat) : Ex := .mk (tyKd k) 0 0 (tyNum k) (tyName k) 0 (tyKids k)
def tyCells (B k : Nat) : Array Value := cells7 (tyKd k) 0 0 (tyNum k) (tyName k) 0 (.slice (tyA B k) (tyLen k) (tyLen k))
def kidC (d : Int) : Array Value := cells7 d 0 0 0 [] 0 (.slice none 0 0)
def tyAll (B : Nat) : Array Value := #[
  .int .i64 1, .int .i64 0, .int .i64 0, .int .i64 1, .string ⟨#[]⟩, .int .i64 0, .slice none 0 0,
  .int .i64 2, .int .i64 0, .int .i64 0, .int .i64 1, .string ⟨#[]⟩, .int .i64 0, .slice none 0 0,
  .int .i64 3, .int .i64 0, .int .i64 0, .int .i64 0, .string ⟨#[103]⟩, .int .i64 0, .slice none 0 0,
  .int .i64 4, .int .i64 0, .int .i64 0, .int .i64 0, .string ⟨#[104]⟩, .int .i64 0, .slice (some ⟨B, 0, none⟩) 1 1,
  .int .i64 5, .int .i64 0, .int .i64 0, .int .i64 0, .string ⟨#[102]⟩, .int .i64 0, .slice (some ⟨B + 1, 0, none⟩) 1 1,
  .int .i64 9, .int .i64 0, .int .i64 0, .int .i64 0, .string ⟨#[]⟩, .int .i64 0, .slice (some ⟨B + 1 + 1, 0, none⟩) 1 1]
theorem six {k : Nat} (hk : k < 6) : k = 0 ∨ k = 1 ∨ k = 2 ∨ k = 3 ∨ k = 4 ∨ k = 5 := by omega
theorem seven {i : Nat} (hi : i < 7) : i = 0 ∨ i = 1 ∨ i = 2 ∨ i = 3 ∨ i = 4 ∨ i = 5 ∨ i = 6 := by omega
theorem tyAll_at (B k i : Nat) (hk : k < 6) (hi : i < 7) : (tyAll B)[k * 7 + i]? = (tyCells B k)[i]? := by
  rcases six hk with rfl | rfl | rfl | rfl | rfl | rfl <;> rcases seven hi with rfl | rfl | rfl | rfl | rfl | rfl | rfl <;> rfl
def isB (d : Int) : Bool := (d != 2) && (d != 9)
def tyKind (n : Nat) : Int := if n < 15 then 6 else if n = 15 then 7 else 8
def tyOp (n : Nat) : Int := if n < 15 then (n : Int) + 1 else 0
def tyTruth (n : Nat) : Bool := decide (10 ≤ n)
def tyDoes (n : Nat) : Int := if 10 ≤ n then 5 else 6
def tyWant (k h n : Nat) : Int := if n < 15 then (if isB (tyKd k) && isB (tyKd h) then (if n = 14 then 40 else 0) else 22) else (if isB (tyKd k) || isB (tyKd h) then 22 else 0)
def tyE (k h n : Nat) : Ex := .mk (tyKind n) 0 0 0 [] (tyOp n) [tyEx k, tyEx h]
def tyPr (k h n : Nat) : Pr := ⟨[⟨[103], 0, 0, 0, 0⟩, ⟨[104], 0, 3, 0, 0⟩], [⟨[102], [[112]], [], 0, 0⟩, ⟨[109, 97, 105, 110], [], [.mk (tyDoes n) 0 0 [] [tyE k h n] [] []], 0, 0⟩]⟩
def tyCk : Bool := (List.range 6).all fun k => (List.range 6).all fun h => (List.range 17).all fun n => prFit (tyPr k h n) && (errOf (ckProg (tyPr k h n))).1 == tyWant k h n
theorem tyCk_true : tyCk = true := by kernel_rfl
theorem ty_at {k h n : Nat} (hk : k < 6) (hh : h < 6) (hn : n < 17) : prFit (tyPr k h n) = true ∧ (errOf (ckProg (tyPr k h n))).1 = tyWant k h n := by
  have q := List.all_eq_true.1 (List.all_eq_true.1 (List.all_eq_true.1 tyCk_true k (List.mem_range.2 hk)) h (List.mem_range.2 hh)) n (List.mem_range.2 hn)
  simp only [Bool.and_eq_true, beq_iff_eq] at q
  exact q
theorem tyKid_at (w : World) (S : Nat → Prop) (d : Int) : (Ex.mk d 0 0 0 [] 0 []).At w S (kidC d) := by
  unfold Ex.At
  refine ⟨by unfold InI64; omega, by unfold InI64; omega, _, rfl, ?_, .inl ⟨rfl, _, _, rfl⟩⟩
  exact .inr ⟨_, _, rfl⟩
theorem tyOne_at {w : World} {S : Nat → Prop} {b : Nat} {d : Int} {t : TypeId} (h : w.heap[b]? = some (.cells (kidC d) t (0, 0))) : Ex.Row w S b 0 [.mk d 0 0 0 [] 0 []] := by
  unfold Ex.Row
  refine ⟨⟨_, tyKid_at w S d, fun j hj => ?_⟩, by unfold Ex.Row; trivial⟩
  rw [Lib.cell_of_heap h, Nat.zero_add]
theorem tyEx_at {w : World} {S : Nat → Prop} {B k : Nat} (hk : k < 6) (s0 : S B) (s1 : S (B + 1)) (s2 : S (B + 1 + 1)) (b0 : w.heap[B]? = some (.cells (kidC 1) 51 (0, 0))) (b1 : w.heap[B + 1]? = some (.cells (kidC 1) 51 (0, 0))) (b2 : w.heap[B + 1 + 1]? = some (.cells (kidC 2) 51 (0, 0))) : (tyEx k).At w S (tyCells B k) := by
  unfold tyEx Ex.At
  refine ⟨by unfold InI64 tyNum; split <;> omega, by unfold InI64; omega, _, rfl, .inr ⟨_, _, rfl⟩, ?_⟩
  rcases six hk with rfl | rfl | rfl | rfl | rfl | rfl
  · exact .inl ⟨rfl, _, _, rfl⟩
  · exact .inl ⟨rfl, _, _, rfl⟩
  · exact .inl ⟨rfl, _, _, rfl⟩
  · exact .inr ⟨by simp [tyKids], B, 0, 1, rfl, s0, by simp [tyKids], by simp [tyKids], tyOne_at b0⟩
  · exact .inr ⟨by simp [tyKids], B + 1, 0, 1, rfl, s1, by simp [tyKids], by simp [tyKids], tyOne_at b1⟩
  · exact .inr ⟨by simp [tyKids], B + 1 + 1, 0, 1, rfl, s2, by simp [tyKids], by simp [tyKids], tyOne_at b2⟩
theorem row_two {w : World} {S : Nat → Prop} {X : Nat} {t : TypeId} {a0 a1 a2 a3 a4 a5 a6 b0 b1 b2 b3 b4 b5 b6 : Value} {e f : Ex} (h : w.heap[X]? = some (.cells #[a0, a1, a2, a3, a4, a5, a6, b0, b1, b2, b3, b4, b5, b6] t (0, 0))) (he : e.At w S #[a0, a1, a2, a3, a4, a5, a6]) (hf : f.At w S #[b0, b1, b2, b3, b4, b5, b6]) : Ex.Row w S X 0 [e, f] := by
  unfold Ex.Row
  refine ⟨⟨_, he, fun j hj => ?_⟩, ?_⟩
  · rw [Lib.cell_of_heap h]
    rcases seven hj with rfl | rfl | rfl | rfl | rfl | rfl | rfl <;> rfl
  · unfold Ex.Row
    refine ⟨⟨_, hf, fun j hj => ?_⟩, by unfold Ex.Row; trivial⟩
    rw [Lib.cell_of_heap h]
    rcases seven hj with rfl | rfl | rfl | rfl | rfl | rfl | rfl <;> rfl
def tyGs : Array Value := #[.string ⟨#[103]⟩, .int .i64 0, .int .i64 0, .int .i64 0, .int .i64 0, .string ⟨#[104]⟩, .int .i64 0, .int .i64 3, .int .i64 0, .int .i64 0]
def tyFs (P S : Nat) : Array Value := #[.string ⟨#[102]⟩, .slice (some ⟨P, 0, none⟩) 1 1, .slice none 0 0, .int .i64 0, .int .i64 0, .string ⟨#[109, 97, 105, 110]⟩, .slice none 0 0, .slice (some ⟨S, 0, none⟩) 1 1, .int .i64 0, .int .i64 0]
def tyX (B k h : Nat) : Array Value := #[.int .i64 (tyKd k), .int .i64 0, .int .i64 0, .int .i64 (tyNum k), .string ⟨(tyName k).toArray⟩, .int .i64 0, .slice (tyA B k) (tyLen k) (tyLen k),
  .int .i64 (tyKd h), .int .i64 0, .int .i64 0, .int .i64 (tyNum h), .string ⟨(tyName h).toArray⟩, .int .i64 0, .slice (tyA B h) (tyLen h) (tyLen h)]
def tyEC (X n : Nat) : Array Value := cells7 (tyKind n) 0 0 0 [] (tyOp n) (.slice (some ⟨X, 0, none⟩) 2 2)
def tySC (E n : Nat) : Array Value := cellsS (tyDoes n) 0 0 [] (.slice (some ⟨E, 0, none⟩) 1 1) (.slice none 0 0) (.slice none 0 0)
theorem tyKind_ne (n : Nat) : tyKind n ≠ 4 := by
  unfold tyKind
  split
  · decide
  · split <;> decide
theorem tyPr_at {w : World} {B X E T G P F k h n : Nat} (hk : k < 6) (hh : h < 6) (hn : n < 17)
    (b0 : w.heap[B]? = some (.cells (kidC 1) 51 (0, 0))) (b1 : w.heap[B + 1]? = some (.cells (kidC 1) 51 (0, 0))) (b2 : w.heap[B + 1 + 1]? = some (.cells (kidC 2) 51 (0, 0)))
    (bX : w.heap[X]? = some (.cells (tyX B k h) 51 (0, 0))) (bE : w.heap[E]? = some (.cells (tyEC X n) 51 (0, 0))) (bT : w.heap[T]? = some (.cells (tySC E n) 56 (0, 0)))
    (bG : w.heap[G]? = some (.cells tyGs 41 (0, 0))) (bP : w.heap[P]? = some (.cells #[.string ⟨#[112]⟩] 9 (0, 0))) (bF : w.heap[F]? = some (.cells (tyFs P T) 46 (0, 0))) :
    (tyPr k h n).At w (· < w.heap.size) #[.slice (some ⟨G, 0, none⟩) 2 2, .slice (some ⟨F, 0, none⟩) 2 2] := by
  have lt : ∀ {b o}, w.heap[b]? = some o → b < w.heap.size := fun h => (Array.getElem?_eq_some_iff.1 h).1
  refine ⟨_, _, rfl, .inr ⟨by simp [tyPr], G, 0, 2, rfl, lt bG, lt bG, by simp [tyPr], by simp [tyPr], ?_⟩, .inr ⟨by simp [tyPr], F, 0, 2, rfl, lt bF, lt bF, by simp [tyPr], by simp [tyPr], ?_⟩⟩
  · intro j x hx i hi
    have hj : j = 0 ∨ j = 1 := by
      have := (List.getElem?_eq_some_iff.1 hx).1
      simp [tyPr] at this; omega
    have hi' : i = 0 ∨ i = 1 ∨ i = 2 ∨ i = 3 ∨ i = 4 := by omega
    rw [Lib.cell_of_heap bG]
    rcases hj with rfl | rfl
    · simp only [tyPr, List.getElem?_cons_zero, Option.some.injEq] at hx
      subst hx
      rcases hi' with rfl | rfl | rfl | rfl | rfl <;> rfl
    · simp only [tyPr, List.getElem?_cons_succ, List.getElem?_cons_zero, Option.some.injEq] at hx
      subst hx
      rcases hi' with rfl | rfl | rfl | rfl | rfl <;> rfl
  · intro j x hx
    have hj : j = 0 ∨ j = 1 := by
      have := (List.getElem?_eq_some_iff.1 hx).1
      simp [tyPr] at this; omega
    rcases hj with rfl | rfl
    · simp only [tyPr, List.getElem?_cons_zero, Option.some.injEq] at hx
      subst hx
      refine ⟨_, ⟨_, _, rfl, .inr ⟨by simp, P, 0, 1, rfl, lt bP, lt bP, by simp, by simp, ?_⟩, .inl ⟨rfl, none, 0, rfl⟩⟩, ?_⟩
      · intro j x hx
        have hj : j = 0 := by
          have := (List.getElem?_eq_some_iff.1 hx).1
          simp at this; omega
        subst hj
        simp only [List.getElem?_cons_zero, Option.some.injEq] at hx
        subst hx
        rw [Lib.cell_of_heap bP]; rfl
      · intro i hi
        have hi' : i = 0 ∨ i = 1 ∨ i = 2 ∨ i = 3 ∨ i = 4 := by omega
        rw [Lib.cell_of_heap bF]
        rcases hi' with rfl | rfl | rfl | rfl | rfl <;> rfl
    · simp only [tyPr, List.getElem?_cons_succ, List.getElem?_cons_zero, Option.some.injEq] at hx
      subst hx
      refine ⟨_, ⟨_, _, rfl, .inl ⟨rfl, none, 0, rfl⟩, .inr ⟨by simp, T, 0, 1, rfl, lt bT, by simp, by simp, ?_⟩⟩, ?_⟩
      · unfold Sm.Row
        refine ⟨⟨tySC E n, ?_, fun j hj => by rw [Lib.cell_of_heap bT, Nat.zero_add]⟩, by unfold Sm.Row; trivial⟩
        refine sm_at (.inr ⟨by simp, E, 0, 1, rfl, lt bE, by simp, by simp, ?_⟩) (.inl ⟨rfl, _, _, rfl⟩) (.inl ⟨rfl, _, _, rfl⟩)
        unfold Ex.Row
        refine ⟨⟨tyEC X n, ?_, fun j hj => by rw [Lib.cell_of_heap bE, Nat.zero_add]⟩, by unfold Ex.Row; trivial⟩
        refine at_kids _ _ _ _ _ _ (by unfold InI64; omega) (by unfold InI64 tyOp; split <;> omega) (.inr ⟨by simp, X, 0, 2, rfl, lt bX, by simp, by simp, ?_⟩) (tyKind_ne n)
        exact row_two bX (tyEx_at hk (lt b0) (lt b1) (lt b2) b0 b1 b2) (tyEx_at hh (lt b0) (lt b1) (lt b2) b0 b1 b2)
      · intro i hi
        have hi' : i = 0 ∨ i = 1 ∨ i = 2 ∨ i = 3 ∨ i = 4 := by omega
        rw [Lib.cell_of_heap bF]
        rcases hi' with rfl | rfl | rfl | rfl | rfl <;> rfl
theorem ty_call {w : World} {B X E T G P F k h n : Nat} (hk : k < 6) (hh : h < 6) (hn : n < 17)
    (b0 : w.heap[B]? = some (.cells (kidC 1) 51 (0, 0))) (b1 : w.heap[B + 1]? = some (.cells (kidC 1) 51 (0, 0))) (b2 : w.heap[B + 1 + 1]? = some (.cells (kidC 2) 51 (0, 0)))
    (bX : w.heap[X]? = some (.cells (tyX B k h) 51 (0, 0))) (bE : w.heap[E]? = some (.cells (tyEC X n) 51 (0, 0))) (bT : w.heap[T]? = some (.cells (tySC E n) 56 (0, 0)))
    (bG : w.heap[G]? = some (.cells tyGs 41 (0, 0))) (bP : w.heap[P]? = some (.cells #[.string ⟨#[112]⟩] 9 (0, 0))) (bF : w.heap[F]? = some (.cells (tyFs P T) 46 (0, 0))) :
    Calls Tryz.prog 12 #[.agg #[.slice (some ⟨G, 0, none⟩) 2 2, .slice (some ⟨F, 0, none⟩) 2 2]] w fun e w' => ∃ m1 m2 l c, e = .returned (.tuple #[.agg #[.map m1, .map m2], .agg #[.int .i64 (tyWant k h n), .int .i64 l, .int .i64 c]]) ∧ w.grownBy w' none := by
  obtain ⟨hfit, herr⟩ := ty_at hk hh hn
  refine (program_ck hfit (tyPr_at hk hh hn b0 b1 b2 bX bE bT bG bP bF)).mono ?_
  rintro e w' ⟨i1, i2, rfl, hg, hi⟩
  have hm : ∃ m1 m2, i1 = .map m1 ∧ i2 = .map m2 := by
    unfold InfoAt at hi
    split at hi
    · obtain ⟨G, F, rfl, rfl, _⟩ := hi; exact ⟨_, _, rfl, rfl⟩
    · obtain ⟨rfl, rfl⟩ := hi; exact ⟨_, _, rfl, rfl⟩
  obtain ⟨m1, m2, rfl, rfl⟩ := hm
  exact ⟨m1, m2, _, _, by rw [herr], hg⟩
set_option maxHeartbeats 1000000 in
set_option maxRecDepth 100000 in
theorem is_any (d a b c : Int) (s : ByteArray) (o : Int) (p : Option Addr) (x y : Nat) (w : World) : Calls Tryz.prog 14 #[.agg #[.int .i64 d, .int .i64 a, .int .i64 b, .int .i64 c, .string s, .int .i64 o, .slice p x y]] w fun e w' => e = .returned (.bool (isB d)) ∧ w.grownBy w' none := by
  by_cases h2 : d = 2
  · subst h2
    go_enter Tryz.func14, Tryz.ntmps14
    go_wp2_with (fail)
    go_ret
    exact ⟨rfl, grown_alloc _ _⟩
  · by_cases h9 : d = 9
    · subst h9
      go_enter Tryz.func14, Tryz.ntmps14
      go_wp2_with (fail)
      go_ret
      exact ⟨rfl, grown_alloc _ _⟩
    · have q2 : (d != 2) = true := by simpa using h2
      have q9 : (d != 9) = true := by simpa using h9
      have HE := Lib.hid (show isB d = true by unfold isB; rw [q2, q9]; rfl)
      clear h2 h9
      go_enter Tryz.func14, Tryz.ntmps14
      go_wp2_with (fail)
      go_ret
      exact ⟨by rw [HE.out]; rfl, grown_alloc _ _⟩
theorem truth_eq (n : Nat) : decide ((11 : Int) ≤ (n : Int) + 1) = decide (10 ≤ n) := decide_eq_decide.2 (by omega)
/-- Behind the choice of the sides and the op. -/
structure TyIn (B Q k h n : Nat) (w wc : World) : Prop where
  grown : w.grownBy wc none
  b0 : wc.heap[B]? = some (.cells (kidC 1) 51 (0, 0))
  b1 : wc.heap[B + 1]? = some (.cells (kidC 1) 51 (0, 0))
  b2 : wc.heap[B + 1 + 1]? = some (.cells (kidC 2) 51 (0, 0))
  bX : wc.heap[Q]? = some (.cells (tyX B k h) 51 (0, 0))
  bE : wc.heap[Q + 1]? = some (.cells (tyEC Q n) 51 (0, 0))
theorem TyIn.later {B Q k h n : Nat} {w wc wd : World} (t : TyIn B Q k h n w wc) (hg : wc.grownBy wd none) : TyIn B Q k h n w wd := by
  have lt : ∀ {b o}, wc.heap[b]? = some o → b < wc.heap.size := fun h => (Array.getElem?_eq_some_iff.1 h).1
  exact ⟨grown_trans t.grown hg, (hg.block _ (lt t.b0) (by simp)).trans t.b0, (hg.block _ (lt t.b1) (by simp)).trans t.b1, (hg.block _ (lt t.b2) (by simp)).trans t.b2, (hg.block _ (lt t.bX) (by simp)).trans t.bX, (hg.block _ (lt t.bE) (by simp)).trans t.bE⟩
theorem TyIn.of {B Q k h n : Nat} {w w3 wc : World} (hsz : w3.heap.size = Q + 1) (hg : w.grownBy w3 none) (b0 : w3.heap[B]? = some (.cells (kidC 1) 51 (0, 0))) (b1 : w3.heap[B + 1]? = some (.cells (kidC 1) 51 (0, 0))) (b2 : w3.heap[B + 1 + 1]? = some (.cells (kidC 2) 51 (0, 0))) (bX : w3.heap[Q]? = some (.cells (tyX B k h) 51 (0, 0)))
    (hw : (w3.alloc (.cells (tyEC Q n) 51)).grownBy wc none) : TyIn B Q k h n w wc := by
  have hg3 := grown_trans (grown_alloc w3 (.cells (tyEC Q n) 51)) hw
  have lt : ∀ {b o}, w3.heap[b]? = some o → b < w3.heap.size := fun h => (Array.getElem?_eq_some_iff.1 h).1
  refine ⟨grown_trans hg hg3, (hg3.block _ (lt b0) (by simp)).trans b0, (hg3.block _ (lt b1) (by simp)).trans b1, (hg3.block _ (lt b2) (by simp)).trans b2, (hg3.block _ (lt bX) (by simp)).trans bX, ?_⟩
  exact (hw.block _ (by simp; omega) (by simp)).trans (alloc_at _ _ _ hsz.symm)
set_option maxHeartbeats 4000000 in
set_option maxRecDepth 100000 in
theorem types_core (op a b : Int) (k h n : Nat) (hk : k < 6) (hh : h < 6) (hn : n < 17) (hka : wrap64 ((IntKind.u64.wrap a).tmod 6) = (k : Int)) (hhb : wrap64 ((IntKind.u64.wrap b).tmod 6) = (h : Int)) (hno : wrap64 ((IntKind.u64.wrap op).tmod 17) = (n : Int)) (w : World) (hg : Ground w) :
    Calls Tryz.prog 4 #[.int .i64 op, .int .i64 a, .int .i64 b] w fun e w' => e = .returned (.bool true) ∧ Below w.heap.size w w' := by
  have HG := Lib.hid hg; have HKA := Lib.hid hka; have HHB := Lib.hid hhb; have HNO := Lib.hid hno
  clear hg hka hhb hno
  go_enter Tryz.func4, Tryz.ntmps4
  go_wp2_with (fail)
  refine (head_any _ HG.out).mono ?_
  rintro e w1 ⟨rfl, hg1⟩
  have HG1 := Lib.hid hg1
  clear hg1
  go_upto_region 4 with (fail)
  change Code.wp _ _ _ _ ((((w1.alloc (.cells (kidC 1) 51)).alloc (.cells (kidC 1) 51)).alloc (.cells (kidC 2) 51)).alloc (.cells (tyAll w1.heap.size) 51))
  have hgw : w1.grownBy ((((w1.alloc (.cells (kidC 1) 51)).alloc (.cells (kidC 1) 51)).alloc (.cells (kidC 2) 51)).alloc (.cells (tyAll w1.heap.size) 51)) none := grown_trans (grown_trans (grown_trans (grown_alloc _ _) (grown_alloc _ _)) (grown_alloc _ _)) (grown_alloc _ _)
  have b0 : ((((w1.alloc (.cells (kidC 1) 51)).alloc (.cells (kidC 1) 51)).alloc (.cells (kidC 2) 51)).alloc (.cells (tyAll w1.heap.size) 51)).heap[w1.heap.size]? = some (.cells (kidC 1) 51 (0, 0)) := alloc_past _ _ _ _ (by simp; omega) (alloc_past _ _ _ _ (by simp; omega) (alloc_past _ _ _ _ (by simp) (alloc_at _ _ _ rfl)))
  have b1 : ((((w1.alloc (.cells (kidC 1) 51)).alloc (.cells (kidC 1) 51)).alloc (.cells (kidC 2) 51)).alloc (.cells (tyAll w1.heap.size) 51)).heap[w1.heap.size + 1]? = some (.cells (kidC 1) 51 (0, 0)) := alloc_past _ _ _ _ (by simp) (alloc_past _ _ _ _ (by simp) (alloc_at _ _ _ (by simp)))
  have b2 : ((((w1.alloc (.cells (kidC 1) 51)).alloc (.cells (kidC 1) 51)).alloc (.cells (kidC 2) 51)).alloc (.cells (tyAll w1.heap.size) 51)).heap[w1.heap.size + 1 + 1]? = some (.cells (kidC 2) 51 (0, 0)) := alloc_past _ _ _ _ (by simp) (alloc_at _ _ _ (by simp))
  have b3 : ((((w1.alloc (.cells (kidC 1) 51)).alloc (.cells (kidC 1) 51)).alloc (.cells (kidC 2) 51)).alloc (.cells (tyAll w1.heap.size) 51)).heap[w1.heap.size + 1 + 1 + 1]? = some (.cells (tyAll w1.heap.size) 51 (0, 0)) := alloc_at _ _ _ (by simp)
  have hsz : ((((w1.alloc (.cells (kidC 1) 51)).alloc (.cells (kidC 1) 51)).alloc (.cells (kidC 2) 51)).alloc (.cells (tyAll w1.heap.size) 51)).heap.size = w1.heap.size + 1 + 1 + 1 + 1 := by simp
  generalize ((((w1.alloc (.cells (kidC 1) 51)).alloc (.cells (kidC 1) 51)).alloc (.cells (kidC 2) 51)).alloc (.cells (tyAll w1.heap.size) 51)) = w2 at *
  have HG2 := Lib.hid (grown_trans HG1.out hgw); have HB0 := Lib.hid b0; have HB1 := Lib.hid b1; have HB2 := Lib.hid b2; have HSZ := Lib.hid hsz
  have hc : ∀ q, q < 6 → ∀ i, i < 7 → w2.cell? ⟨w1.heap.size + 1 + 1 + 1, q * 7 + i, none⟩ = (tyCells w1.heap.size q)[i]? := fun q hq i hi => by rw [Lib.cell_of_heap b3]; exact tyAll_at _ _ _ hq hi
  have c0 : w2.cell? ⟨w1.heap.size + 1 + 1 + 1, k * 7, none⟩ = some (.int .i64 (tyKd k)) := hc k hk 0 (by decide)
  have c1 : w2.cell? ⟨w1.heap.size + 1 + 1 + 1, k * 7 + 1, none⟩ = some (.int .i64 0) := hc k hk 1 (by decide)
  have c2 : w2.cell? ⟨w1.heap.size + 1 + 1 + 1, k * 7 + 2, none⟩ = some (.int .i64 0) := hc k hk 2 (by decide)
  have c3 : w2.cell? ⟨w1.heap.size + 1 + 1 + 1, k * 7 + 3, none⟩ = some (.int .i64 (tyNum k)) := hc k hk 3 (by decide)
  have c4 : w2.cell? ⟨w1.heap.size + 1 + 1 + 1, k * 7 + 4, none⟩ = some (.string ⟨(tyName k).toArray⟩) := hc k hk 4 (by decide)
  have c5 : w2.cell? ⟨w1.heap.size + 1 + 1 + 1, k * 7 + 5, none⟩ = some (.int .i64 0) := hc k hk 5 (by decide)
  have c6 : w2.cell? ⟨w1.heap.size + 1 + 1 + 1, k * 7 + 6, none⟩ = some (.slice (tyA w1.heap.size k) (tyLen k) (tyLen k)) := hc k hk 6 (by decide)
  have d0 : w2.cell? ⟨w1.heap.size + 1 + 1 + 1, h * 7, none⟩ = some (.int .i64 (tyKd h)) := hc h hh 0 (by decide)
  have d1 : w2.cell? ⟨w1.heap.size + 1 + 1 + 1, h * 7 + 1, none⟩ = some (.int .i64 0) := hc h hh 1 (by decide)
  have d2 : w2.cell? ⟨w1.heap.size + 1 + 1 + 1, h * 7 + 2, none⟩ = some (.int .i64 0) := hc h hh 2 (by decide)
  have d3 : w2.cell? ⟨w1.heap.size + 1 + 1 + 1, h * 7 + 3, none⟩ = some (.int .i64 (tyNum h)) := hc h hh 3 (by decide)
  have d4 : w2.cell? ⟨w1.heap.size + 1 + 1 + 1, h * 7 + 4, none⟩ = some (.string ⟨(tyName h).toArray⟩) := hc h hh 4 (by decide)
  have d5 : w2.cell? ⟨w1.heap.size + 1 + 1 + 1, h * 7 + 5, none⟩ = some (.int .i64 0) := hc h hh 5 (by decide)
  have d6 : w2.cell? ⟨w1.heap.size + 1 + 1 + 1, h * 7 + 6, none⟩ = some (.slice (tyA w1.heap.size h) (tyLen h) (tyLen h)) := hc h hh 6 (by decide)
  have hlt : w1.heap.size + 1 + 1 + 1 < w2.heap.size := by omega
  have hka := HKA.out
  have hhb := HHB.out
  clear hgw b0 b1 b2 b3 hsz hc
  go_upto_region 8 with (fail)
  change Code.wp _ _ _ _ ((((w2.alloc (.cells (tyCells w1.heap.size k) 51)).alloc (.cells (tyCells w1.heap.size h) 51)).alloc (.cells (tyX w1.heap.size k h) 51)).alloc (.cells #[.int .i64 0, .int .i64 0, .int .i64 0, .int .i64 0, .string ⟨#[]⟩, .int .i64 0, .slice (some ⟨w2.heap.size + 1 + 1, 0, none⟩) 2 2] 51))
  have hgw : w2.grownBy (((w2.alloc (.cells (tyCells w1.heap.size k) 51)).alloc (.cells (tyCells w1.heap.size h) 51)).alloc (.cells (tyX w1.heap.size k h) 51)) none := grown_trans (grown_trans (grown_alloc _ _) (grown_alloc _ _)) (grown_alloc _ _)
  have bx : (((w2.alloc (.cells (tyCells w1.heap.size k) 51)).alloc (.cells (tyCells w1.heap.size h) 51)).alloc (.cells (tyX w1.heap.size k h) 51)).heap[w2.heap.size]? = some (.cells (tyCells w1.heap.size k) 51 (0, 0)) := alloc_past _ _ _ _ (by simp; omega) (alloc_past _ _ _ _ (by simp) (alloc_at _ _ _ rfl))
  have by' : (((w2.alloc (.cells (tyCells w1.heap.size k) 51)).alloc (.cells (tyCells w1.heap.size h) 51)).alloc (.cells (tyX w1.heap.size k h) 51)).heap[w2.heap.size + 1]? = some (.cells (tyCells w1.heap.size h) 51 (0, 0)) := alloc_past _ _ _ _ (by simp) (alloc_at _ _ _ (by simp))
  have bX : (((w2.alloc (.cells (tyCells w1.heap.size k) 51)).alloc (.cells (tyCells w1.heap.size h) 51)).alloc (.cells (tyX w1.heap.size k h) 51)).heap[w2.heap.size + 1 + 1]? = some (.cells (tyX w1.heap.size k h) 51 (0, 0)) := alloc_at _ _ _ (by simp)
  have hsz3 : (((w2.alloc (.cells (tyCells w1.heap.size k) 51)).alloc (.cells (tyCells w1.heap.size h) 51)).alloc (.cells (tyX w1.heap.size k h) 51)).heap.size = w2.heap.size + 1 + 1 + 1 := by simp
  generalize (((w2.alloc (.cells (tyCells w1.heap.size k) 51)).alloc (.cells (tyCells w1.heap.size h) 51)).alloc (.cells (tyX w1.heap.size k h) 51)) = w3 at *
  have lt2 : ∀ {b o}, w2.heap[b]? = some o → b < w2.heap.size := fun h => (Array.getElem?_eq_some_iff.1 h).1
  have HG3 := Lib.hid (grown_trans HG2.out hgw)
  have HC0 := Lib.hid ((hgw.block _ (lt2 HB0.out) (by simp)).trans HB0.out)
  have HC1 := Lib.hid ((hgw.block _ (lt2 HB1.out) (by simp)).trans HB1.out)
  have HC2 := Lib.hid ((hgw.block _ (lt2 HB2.out) (by simp)).trans HB2.out)
  have HCX := Lib.hid bX
  have HBY := Lib.hid by'
  have HSZ3 := Lib.hid hsz3
  have HOF := Lib.hid (fun (wc : World) (hw : (w3.alloc (.cells (tyEC (w2.heap.size + 1 + 1) n) 51)).grownBy wc none) => TyIn.of (k := k) (h := h) hsz3 HG3.out HC0.out HC1.out HC2.out bX hw)
  have hxc : ∀ i, i < 7 → w3.cell? ⟨w2.heap.size, i, none⟩ = (tyCells w1.heap.size k)[i]? := fun i _ => Lib.cell_of_heap bx i
  have x0 : w3.cell? ⟨w2.heap.size, 0, none⟩ = some (.int .i64 (tyKd k)) := hxc 0 (by decide)
  have x1 : w3.cell? ⟨w2.heap.size, 1, none⟩ = some (.int .i64 0) := hxc 1 (by decide)
  have x2 : w3.cell? ⟨w2.heap.size, 2, none⟩ = some (.int .i64 0) := hxc 2 (by decide)
  have x3 : w3.cell? ⟨w2.heap.size, 3, none⟩ = some (.int .i64 (tyNum k)) := hxc 3 (by decide)
  have x4 : w3.cell? ⟨w2.heap.size, 4, none⟩ = some (.string ⟨(tyName k).toArray⟩) := hxc 4 (by decide)
  have x5 : w3.cell? ⟨w2.heap.size, 5, none⟩ = some (.int .i64 0) := hxc 5 (by decide)
  have x6 : w3.cell? ⟨w2.heap.size, 6, none⟩ = some (.slice (tyA w1.heap.size k) (tyLen k) (tyLen k)) := hxc 6 (by decide)
  have HY := Lib.hid (fun (wc : World) (o : Obj) (hw : (w3.alloc o).grownBy wc none) (i : Nat) => show wc.cell? ⟨w2.heap.size + 1, i, none⟩ = (tyCells w1.heap.size h)[i]? from by
    have h3 := (grown_trans (grown_alloc w3 o) hw).block (w2.heap.size + 1) (by omega) (by simp)
    exact Lib.cell_of_heap (h3.trans HBY.out) i)
  have hltx : w2.heap.size < w3.heap.size := by omega
  rw [← hsz3]
  clear hgw bx by' bX lt2 hxc c0 c1 c2 c3 c4 c5 c6 d0 d1 d2 d3 d4 d5 d6 hlt hka hhb hsz3
  go_upto_block 0 with (fail)
  rw [HNO.out]
  go_cut [13, 14] from 57 to 100 (fun p13 p14 wx => p13 = .int .i64 (tyWant k h n) ∧ p14 = .bool (tyTruth n) ∧ TyIn w1.heap.size (w2.heap.size + 1 + 1) k h n w wx)
  case first =>
    by_cases hn15 : n < 15
    · have HE := Lib.hid (show tyEC (w2.heap.size + 1 + 1) n = #[.int .i64 6, .int .i64 0, .int .i64 0, .int .i64 0, .string ⟨#[]⟩, .int .i64 ((n : Int) + 1), .slice (some ⟨w2.heap.size + 1 + 1, 0, none⟩) 2 2] by unfold tyEC tyKind tyOp; rw [if_pos hn15, if_pos hn15]; rfl)
      go_wp2_with (fail)
      refine (is_any _ _ _ _ _ _ _ _ _ _).mono ?_
      rintro e w4 ⟨rfl, hg4⟩
      have hy := HY.out w4 _ hg4
      have y0 : w4.cell? ⟨w2.heap.size + 1, 0, none⟩ = some (.int .i64 (tyKd h)) := hy 0
      have y1 : w4.cell? ⟨w2.heap.size + 1, 1, none⟩ = some (.int .i64 0) := hy 1
      have y2 : w4.cell? ⟨w2.heap.size + 1, 2, none⟩ = some (.int .i64 0) := hy 2
      have y3 : w4.cell? ⟨w2.heap.size + 1, 3, none⟩ = some (.int .i64 (tyNum h)) := hy 3
      have y4 : w4.cell? ⟨w2.heap.size + 1, 4, none⟩ = some (.string ⟨(tyName h).toArray⟩) := hy 4
      have y5 : w4.cell? ⟨w2.heap.size + 1, 5, none⟩ = some (.int .i64 0) := hy 5
      have y6 : w4.cell? ⟨w2.heap.size + 1, 6, none⟩ = some (.slice (tyA w1.heap.size h) (tyLen h) (tyLen h)) := hy 6
      rw [← HE.out] at hg4
      have HG4 := Lib.hid hg4
      clear hg4 hy x0 x1 x2 x3 x4 x5 x6
      cases hi1 : isB (tyKd k)
      · have HW := Lib.hid (show tyWant k h n = 22 by unfold tyWant; rw [if_pos hn15, hi1]; rfl)
        clear hi1
        go_wp2_with (fail)
        go_meet
        case rel => exact ⟨by rw [HW.out], by rw [truth_eq]; rfl, HOF.out _ HG4.out⟩
      · go_wp2_with (fail)
        refine (is_any _ _ _ _ _ _ _ _ _ _).mono ?_
        rintro e w5 ⟨rfl, hg5⟩
        have HG5 := Lib.hid (grown_trans HG4.out hg5)
        clear hg5 y0 y1 y2 y3 y4 y5 y6
        cases hi2 : isB (tyKd h)
        · have HW := Lib.hid (show tyWant k h n = 22 by unfold tyWant; rw [if_pos hn15, hi1, hi2]; rfl)
          clear hi1 hi2
          go_wp2_with (fail)
          go_meet
          case rel => exact ⟨by rw [HW.out], by rw [truth_eq]; rfl, HOF.out _ HG5.out⟩
        · by_cases hn14 : n = 14
          · have HW := Lib.hid (show tyWant k h n = 40 by unfold tyWant; rw [if_pos hn15, hi1, hi2, if_pos hn14]; rfl)
            have q : ((n : Int) + 1 == 15) = true := by simp; omega
            clear hi1 hi2 hn14
            go_wp2_with (fail)
            go_meet
            case rel => exact ⟨by rw [HW.out], by rw [truth_eq]; rfl, HOF.out _ HG5.out⟩
          · have HW := Lib.hid (show tyWant k h n = 0 by unfold tyWant; rw [if_pos hn15, hi1, hi2, if_neg hn14]; rfl)
            have q : ((n : Int) + 1 == 15) = false := by simp; omega
            clear hi1 hi2 hn14
            go_wp2_with (fail)
            go_meet
            case rel => exact ⟨by rw [HW.out], by rw [truth_eq]; rfl, HOF.out _ HG5.out⟩
    · have HT := Lib.hid (show tyTruth n = true by unfold tyTruth; exact decide_eq_true (by omega))
      by_cases he15 : n = 15
      · have HE := Lib.hid (show tyEC (w2.heap.size + 1 + 1) n = #[.int .i64 7, .int .i64 0, .int .i64 0, .int .i64 0, .string ⟨#[]⟩, .int .i64 0, .slice (some ⟨w2.heap.size + 1 + 1, 0, none⟩) 2 2] by unfold tyEC tyKind tyOp; rw [if_neg hn15, if_neg hn15, if_pos he15]; rfl)
        have q : ((n : Int) == 15) = true := by simp; omega
        clear he15
        go_wp2_with (fail)
        refine (is_any _ _ _ _ _ _ _ _ _ _).mono ?_
        rintro e w4 ⟨rfl, hg4⟩
        have hy := HY.out w4 _ hg4
        have y0 : w4.cell? ⟨w2.heap.size + 1, 0, none⟩ = some (.int .i64 (tyKd h)) := hy 0
        have y1 : w4.cell? ⟨w2.heap.size + 1, 1, none⟩ = some (.int .i64 0) := hy 1
        have y2 : w4.cell? ⟨w2.heap.size + 1, 2, none⟩ = some (.int .i64 0) := hy 2
        have y3 : w4.cell? ⟨w2.heap.size + 1, 3, none⟩ = some (.int .i64 (tyNum h)) := hy 3
        have y4 : w4.cell? ⟨w2.heap.size + 1, 4, none⟩ = some (.string ⟨(tyName h).toArray⟩) := hy 4
        have y5 : w4.cell? ⟨w2.heap.size + 1, 5, none⟩ = some (.int .i64 0) := hy 5
        have y6 : w4.cell? ⟨w2.heap.size + 1, 6, none⟩ = some (.slice (tyA w1.heap.size h) (tyLen h) (tyLen h)) := hy 6
        rw [← HE.out] at hg4
        have HG4 := Lib.hid hg4
        clear hg4 hy x0 x1 x2 x3 x4 x5 x6
        cases hi1 : isB (tyKd k)
        · go_wp2_with (fail)
          refine (is_any _ _ _ _ _ _ _ _ _ _).mono ?_
          rintro e w5 ⟨rfl, hg5⟩
          have HG5 := Lib.hid (grown_trans HG4.out hg5)
          clear hg5 y0 y1 y2 y3 y4 y5 y6
          cases hi2 : isB (tyKd h)
          · have HW := Lib.hid (show tyWant k h n = 0 by unfold tyWant; rw [if_neg hn15, hi1, hi2]; rfl)
            clear hi1 hi2
            go_wp2_with (fail)
            go_meet
            case rel => exact ⟨by rw [HW.out], by rw [HT.out], HOF.out _ HG5.out⟩
          · have HW := Lib.hid (show tyWant k h n = 22 by unfold tyWant; rw [if_neg hn15, hi1, hi2]; rfl)
            clear hi1 hi2
            go_wp2_with (fail)
            go_meet
            case rel => exact ⟨by rw [HW.out], by rw [HT.out], HOF.out _ HG5.out⟩
        · have HW := Lib.hid (show tyWant k h n = 22 by unfold tyWant; rw [if_neg hn15, hi1]; rfl)
          clear hi1
          go_wp2_with (fail)
          go_meet
          case rel => exact ⟨by rw [HW.out], by rw [HT.out], HOF.out _ HG4.out⟩
      · have HE := Lib.hid (show tyEC (w2.heap.size + 1 + 1) n = #[.int .i64 8, .int .i64 0, .int .i64 0, .int .i64 0, .string ⟨#[]⟩, .int .i64 0, .slice (some ⟨w2.heap.size + 1 + 1, 0, none⟩) 2 2] by unfold tyEC tyKind tyOp; rw [if_neg hn15, if_neg hn15, if_neg he15]; rfl)
        have q : ((n : Int) == 15) = false := by simp; omega
        clear he15
        go_wp2_with (fail)
        refine (is_any _ _ _ _ _ _ _ _ _ _).mono ?_
        rintro e w4 ⟨rfl, hg4⟩
        have hy := HY.out w4 _ hg4
        have y0 : w4.cell? ⟨w2.heap.size + 1, 0, none⟩ = some (.int .i64 (tyKd h)) := hy 0
        have y1 : w4.cell? ⟨w2.heap.size + 1, 1, none⟩ = some (.int .i64 0) := hy 1
        have y2 : w4.cell? ⟨w2.heap.size + 1, 2, none⟩ = some (.int .i64 0) := hy 2
        have y3 : w4.cell? ⟨w2.heap.size + 1, 3, none⟩ = some (.int .i64 (tyNum h)) := hy 3
        have y4 : w4.cell? ⟨w2.heap.size + 1, 4, none⟩ = some (.string ⟨(tyName h).toArray⟩) := hy 4
        have y5 : w4.cell? ⟨w2.heap.size + 1, 5, none⟩ = some (.int .i64 0) := hy 5
        have y6 : w4.cell? ⟨w2.heap.size + 1, 6, none⟩ = some (.slice (tyA w1.heap.size h) (tyLen h) (tyLen h)) := hy 6
        rw [← HE.out] at hg4
        have HG4 := Lib.hid hg4
        clear hg4 hy x0 x1 x2 x3 x4 x5 x6
        cases hi1 : isB (tyKd k)
        · go_wp2_with (fail)
          refine (is_any _ _ _ _ _ _ _ _ _ _).mono ?_
          rintro e w5 ⟨rfl, hg5⟩
          have HG5 := Lib.hid (grown_trans HG4.out hg5)
          clear hg5 y0 y1 y2 y3 y4 y5 y6
          cases hi2 : isB (tyKd h)
          · have HW := Lib.hid (show tyWant k h n = 0 by unfold tyWant; rw [if_neg hn15, hi1, hi2]; rfl)
            clear hi1 hi2
            go_wp2_with (fail)
            go_meet
            case rel => exact ⟨by rw [HW.out], by rw [HT.out], HOF.out _ HG5.out⟩
          · have HW := Lib.hid (show tyWant k h n = 22 by unfold tyWant; rw [if_neg hn15, hi1, hi2]; rfl)
            clear hi1 hi2
            go_wp2_with (fail)
            go_meet
            case rel => exact ⟨by rw [HW.out], by rw [HT.out], HOF.out _ HG5.out⟩
        · have HW := Lib.hid (show tyWant k h n = 22 by unfold tyWant; rw [if_neg hn15, hi1]; rfl)
          clear hi1
          go_wp2_with (fail)
          go_meet
          case rel => exact ⟨by rw [HW.out], by rw [HT.out], HOF.out _ HG4.out⟩
  case rest =>
    obtain ⟨rfl, rfl, ht⟩ := hcut
    have HT := Lib.hid ht
    have hE := fun i => Lib.cell_of_heap ht.bE i
    have e0 := (hE 0).trans (show (tyEC (w2.heap.size + 1 + 1) n)[0]? = some (.int .i64 (tyKind n)) from rfl)
    have e1 := (hE 1).trans (show (tyEC (w2.heap.size + 1 + 1) n)[1]? = some (.int .i64 0) from rfl)
    have e2 := (hE 2).trans (show (tyEC (w2.heap.size + 1 + 1) n)[2]? = some (.int .i64 0) from rfl)
    have e3 := (hE 3).trans (show (tyEC (w2.heap.size + 1 + 1) n)[3]? = some (.int .i64 0) from rfl)
    have e4 := (hE 4).trans (show (tyEC (w2.heap.size + 1 + 1) n)[4]? = some (.string ⟨#[]⟩) from rfl)
    have e5 := (hE 5).trans (show (tyEC (w2.heap.size + 1 + 1) n)[5]? = some (.int .i64 (tyOp n)) from rfl)
    have e6 := (hE 6).trans (show (tyEC (w2.heap.size + 1 + 1) n)[6]? = some (.slice (some ⟨w2.heap.size + 1 + 1, 0, none⟩) 2 2) from rfl)
    have hltE := (Array.getElem?_eq_some_iff.1 ht.bE).1
    rw [HSZ3.out]
    clear ht hE x0 x1 x2 x3 x4 x5 x6
    cases htr : tyTruth n
    · have hd : tyDoes n = 6 := by unfold tyTruth at htr; unfold tyDoes; rw [if_neg (by simpa using htr)]
      have HD := Lib.hid hd
      clear hd htr
      go_upto_region 31 with (fail)
      change Code.wp _ _ _ _ ((((((wc.alloc (.cells (tyEC (w2.heap.size + 1 + 1) n) 51)).alloc (.cells (cellsS 6 0 0 [] (.slice (some ⟨wc.heap.size, 0, none⟩) 1 1) (.slice none 0 0) (.slice none 0 0)) 56)).alloc (.cells tyGs 41)).alloc (.cells #[.string ⟨#[112]⟩] 9)).alloc (.cells (tyFs (wc.heap.size + 1 + 1 + 1) (wc.heap.size + 1)) 46)).alloc (.cells #[.slice (some ⟨wc.heap.size + 1 + 1, 0, none⟩) 2 2, .slice (some ⟨wc.heap.size + 1 + 1 + 1 + 1, 0, none⟩) 2 2] 25))
      have hge : wc.grownBy ((((((wc.alloc (.cells (tyEC (w2.heap.size + 1 + 1) n) 51)).alloc (.cells (cellsS 6 0 0 [] (.slice (some ⟨wc.heap.size, 0, none⟩) 1 1) (.slice none 0 0) (.slice none 0 0)) 56)).alloc (.cells tyGs 41)).alloc (.cells #[.string ⟨#[112]⟩] 9)).alloc (.cells (tyFs (wc.heap.size + 1 + 1 + 1) (wc.heap.size + 1)) 46)).alloc (.cells #[.slice (some ⟨wc.heap.size + 1 + 1, 0, none⟩) 2 2, .slice (some ⟨wc.heap.size + 1 + 1 + 1 + 1, 0, none⟩) 2 2] 25)) none := grown_trans (grown_trans (grown_trans (grown_trans (grown_trans (grown_alloc _ _) (grown_alloc _ _)) (grown_alloc _ _)) (grown_alloc _ _)) (grown_alloc _ _)) (grown_alloc _ _)
      have q0 : ((((((wc.alloc (.cells (tyEC (w2.heap.size + 1 + 1) n) 51)).alloc (.cells (cellsS 6 0 0 [] (.slice (some ⟨wc.heap.size, 0, none⟩) 1 1) (.slice none 0 0) (.slice none 0 0)) 56)).alloc (.cells tyGs 41)).alloc (.cells #[.string ⟨#[112]⟩] 9)).alloc (.cells (tyFs (wc.heap.size + 1 + 1 + 1) (wc.heap.size + 1)) 46)).alloc (.cells #[.slice (some ⟨wc.heap.size + 1 + 1, 0, none⟩) 2 2, .slice (some ⟨wc.heap.size + 1 + 1 + 1 + 1, 0, none⟩) 2 2] 25)).heap[wc.heap.size]? = some (.cells (tyEC (w2.heap.size + 1 + 1) n) 51 (0, 0)) := alloc_past _ _ _ _ (by simp <;> omega) (alloc_past _ _ _ _ (by simp <;> omega) (alloc_past _ _ _ _ (by simp <;> omega) (alloc_past _ _ _ _ (by simp <;> omega) (alloc_past _ _ _ _ (by simp <;> omega) (alloc_at _ _ _ (by simp))))))
      have q1 : ((((((wc.alloc (.cells (tyEC (w2.heap.size + 1 + 1) n) 51)).alloc (.cells (cellsS 6 0 0 [] (.slice (some ⟨wc.heap.size, 0, none⟩) 1 1) (.slice none 0 0) (.slice none 0 0)) 56)).alloc (.cells tyGs 41)).alloc (.cells #[.string ⟨#[112]⟩] 9)).alloc (.cells (tyFs (wc.heap.size + 1 + 1 + 1) (wc.heap.size + 1)) 46)).alloc (.cells #[.slice (some ⟨wc.heap.size + 1 + 1, 0, none⟩) 2 2, .slice (some ⟨wc.heap.size + 1 + 1 + 1 + 1, 0, none⟩) 2 2] 25)).heap[wc.heap.size + 1]? = some (.cells (cellsS 6 0 0 [] (.slice (some ⟨wc.heap.size, 0, none⟩) 1 1) (.slice none 0 0) (.slice none 0 0)) 56 (0, 0)) := alloc_past _ _ _ _ (by simp <;> omega) (alloc_past _ _ _ _ (by simp <;> omega) (alloc_past _ _ _ _ (by simp <;> omega) (alloc_past _ _ _ _ (by simp <;> omega) (alloc_at _ _ _ (by simp)))))
      have q2 : ((((((wc.alloc (.cells (tyEC (w2.heap.size + 1 + 1) n) 51)).alloc (.cells (cellsS 6 0 0 [] (.slice (some ⟨wc.heap.size, 0, none⟩) 1 1) (.slice none 0 0) (.slice none 0 0)) 56)).alloc (.cells tyGs 41)).alloc (.cells #[.string ⟨#[112]⟩] 9)).alloc (.cells (tyFs (wc.heap.size + 1 + 1 + 1) (wc.heap.size + 1)) 46)).alloc (.cells #[.slice (some ⟨wc.heap.size + 1 + 1, 0, none⟩) 2 2, .slice (some ⟨wc.heap.size + 1 + 1 + 1 + 1, 0, none⟩) 2 2] 25)).heap[wc.heap.size + 1 + 1]? = some (.cells tyGs 41 (0, 0)) := alloc_past _ _ _ _ (by simp <;> omega) (alloc_past _ _ _ _ (by simp <;> omega) (alloc_past _ _ _ _ (by simp <;> omega) (alloc_at _ _ _ (by simp))))
      have q3 : ((((((wc.alloc (.cells (tyEC (w2.heap.size + 1 + 1) n) 51)).alloc (.cells (cellsS 6 0 0 [] (.slice (some ⟨wc.heap.size, 0, none⟩) 1 1) (.slice none 0 0) (.slice none 0 0)) 56)).alloc (.cells tyGs 41)).alloc (.cells #[.string ⟨#[112]⟩] 9)).alloc (.cells (tyFs (wc.heap.size + 1 + 1 + 1) (wc.heap.size + 1)) 46)).alloc (.cells #[.slice (some ⟨wc.heap.size + 1 + 1, 0, none⟩) 2 2, .slice (some ⟨wc.heap.size + 1 + 1 + 1 + 1, 0, none⟩) 2 2] 25)).heap[wc.heap.size + 1 + 1 + 1]? = some (.cells #[.string ⟨#[112]⟩] 9 (0, 0)) := alloc_past _ _ _ _ (by simp <;> omega) (alloc_past _ _ _ _ (by simp <;> omega) (alloc_at _ _ _ (by simp)))
      have q4 : ((((((wc.alloc (.cells (tyEC (w2.heap.size + 1 + 1) n) 51)).alloc (.cells (cellsS 6 0 0 [] (.slice (some ⟨wc.heap.size, 0, none⟩) 1 1) (.slice none 0 0) (.slice none 0 0)) 56)).alloc (.cells tyGs 41)).alloc (.cells #[.string ⟨#[112]⟩] 9)).alloc (.cells (tyFs (wc.heap.size + 1 + 1 + 1) (wc.heap.size + 1)) 46)).alloc (.cells #[.slice (some ⟨wc.heap.size + 1 + 1, 0, none⟩) 2 2, .slice (some ⟨wc.heap.size + 1 + 1 + 1 + 1, 0, none⟩) 2 2] 25)).heap[wc.heap.size + 1 + 1 + 1 + 1]? = some (.cells (tyFs (wc.heap.size + 1 + 1 + 1) (wc.heap.size + 1)) 46 (0, 0)) := alloc_past _ _ _ _ (by simp <;> omega) (alloc_at _ _ _ (by simp))
      have q5 : ((((((wc.alloc (.cells (tyEC (w2.heap.size + 1 + 1) n) 51)).alloc (.cells (cellsS 6 0 0 [] (.slice (some ⟨wc.heap.size, 0, none⟩) 1 1) (.slice none 0 0) (.slice none 0 0)) 56)).alloc (.cells tyGs 41)).alloc (.cells #[.string ⟨#[112]⟩] 9)).alloc (.cells (tyFs (wc.heap.size + 1 + 1 + 1) (wc.heap.size + 1)) 46)).alloc (.cells #[.slice (some ⟨wc.heap.size + 1 + 1, 0, none⟩) 2 2, .slice (some ⟨wc.heap.size + 1 + 1 + 1 + 1, 0, none⟩) 2 2] 25)).heap[wc.heap.size + 1 + 1 + 1 + 1 + 1]? = some (.cells #[.slice (some ⟨wc.heap.size + 1 + 1, 0, none⟩) 2 2, .slice (some ⟨wc.heap.size + 1 + 1 + 1 + 1, 0, none⟩) 2 2] 25 (0, 0)) := alloc_at _ _ _ (by simp)
      generalize ((((((wc.alloc (.cells (tyEC (w2.heap.size + 1 + 1) n) 51)).alloc (.cells (cellsS 6 0 0 [] (.slice (some ⟨wc.heap.size, 0, none⟩) 1 1) (.slice none 0 0) (.slice none 0 0)) 56)).alloc (.cells tyGs 41)).alloc (.cells #[.string ⟨#[112]⟩] 9)).alloc (.cells (tyFs (wc.heap.size + 1 + 1 + 1) (wc.heap.size + 1)) 46)).alloc (.cells #[.slice (some ⟨wc.heap.size + 1 + 1, 0, none⟩) 2 2, .slice (some ⟨wc.heap.size + 1 + 1 + 1 + 1, 0, none⟩) 2 2] 25)) = we at *
      have ht := HT.out.later hge
      have HTE := Lib.hid ht
      have HCALL := Lib.hid (ty_call hk hh hn ht.b0 ht.b1 ht.b2 ht.bX q0 (by unfold tySC; rw [HD.out]; exact q1) q2 q3 q4)
      obtain ⟨⟨r0, r1⟩, _, _⟩ := two q5
      have hlq := (Array.getElem?_eq_some_iff.1 q5).1
      clear hge q0 q1 q2 q3 q4 q5 ht e0 e1 e2 e3 e4 e5 e6
      go_wp2_with (fail)
      refine HCALL.out.mono ?_
      rintro e w6 ⟨m1, m2, l, c, rfl, hg6⟩
      have HG6 := Lib.hid (grown_trans HTE.out.grown hg6)
      clear hg6
      go_wp2_with (fail)
      go_ret
      exact ⟨by simp, below_grown (grown_trans (grown_trans HG6.out (grown_alloc _ _)) (grown_alloc _ _)) (Nat.le_refl _)⟩
    · have hd : tyDoes n = 5 := by unfold tyTruth at htr; unfold tyDoes; rw [if_pos (by simpa using htr)]
      have HD := Lib.hid hd
      clear hd htr
      go_upto_region 29 with (fail)
      change Code.wp _ _ _ _ ((wc.alloc (.cells (tyEC (w2.heap.size + 1 + 1) n) 51)).alloc (.cells (cellsS 6 0 0 [] (.slice (some ⟨wc.heap.size, 0, none⟩) 1 1) (.slice none 0 0) (.slice none 0 0)) 56))
      have hgd : wc.grownBy ((wc.alloc (.cells (tyEC (w2.heap.size + 1 + 1) n) 51)).alloc (.cells (cellsS 6 0 0 [] (.slice (some ⟨wc.heap.size, 0, none⟩) 1 1) (.slice none 0 0) (.slice none 0 0)) 56)) none := grown_trans (grown_alloc _ _) (grown_alloc _ _)
      generalize hwd : ((wc.alloc (.cells (tyEC (w2.heap.size + 1 + 1) n) 51)).alloc (.cells (cellsS 6 0 0 [] (.slice (some ⟨wc.heap.size, 0, none⟩) 1 1) (.slice none 0 0) (.slice none 0 0)) 56)) = wd at *
      have ht := HT.out.later hgd
      have HTD := Lib.hid ht
      have hE := fun i => Lib.cell_of_heap ht.bE i
      clear e0 e1 e2 e3 e4 e5 e6 hwd hgd HT
      have e0 := (hE 0).trans (show (tyEC (w2.heap.size + 1 + 1) n)[0]? = some (.int .i64 (tyKind n)) from rfl)
      have e1 := (hE 1).trans (show (tyEC (w2.heap.size + 1 + 1) n)[1]? = some (.int .i64 0) from rfl)
      have e2 := (hE 2).trans (show (tyEC (w2.heap.size + 1 + 1) n)[2]? = some (.int .i64 0) from rfl)
      have e3 := (hE 3).trans (show (tyEC (w2.heap.size + 1 + 1) n)[3]? = some (.int .i64 0) from rfl)
      have e4 := (hE 4).trans (show (tyEC (w2.heap.size + 1 + 1) n)[4]? = some (.string ⟨#[]⟩) from rfl)
      have e5 := (hE 5).trans (show (tyEC (w2.heap.size + 1 + 1) n)[5]? = some (.int .i64 (tyOp n)) from rfl)
      have e6 := (hE 6).trans (show (tyEC (w2.heap.size + 1 + 1) n)[6]? = some (.slice (some ⟨w2.heap.size + 1 + 1, 0, none⟩) 2 2) from rfl)
      have hltD := (Array.getElem?_eq_some_iff.1 ht.bE).1
      clear ht hE
      go_upto_region 31 with (fail)
      change Code.wp _ _ _ _ ((((((wd.alloc (.cells (tyEC (w2.heap.size + 1 + 1) n) 51)).alloc (.cells (cellsS 5 0 0 [] (.slice (some ⟨wd.heap.size, 0, none⟩) 1 1) (.slice none 0 0) (.slice none 0 0)) 56)).alloc (.cells tyGs 41)).alloc (.cells #[.string ⟨#[112]⟩] 9)).alloc (.cells (tyFs (wd.heap.size + 1 + 1 + 1) (wd.heap.size + 1)) 46)).alloc (.cells #[.slice (some ⟨wd.heap.size + 1 + 1, 0, none⟩) 2 2, .slice (some ⟨wd.heap.size + 1 + 1 + 1 + 1, 0, none⟩) 2 2] 25))
      have hge : wd.grownBy ((((((wd.alloc (.cells (tyEC (w2.heap.size + 1 + 1) n) 51)).alloc (.cells (cellsS 5 0 0 [] (.slice (some ⟨wd.heap.size, 0, none⟩) 1 1) (.slice none 0 0) (.slice none 0 0)) 56)).alloc (.cells tyGs 41)).alloc (.cells #[.string ⟨#[112]⟩] 9)).alloc (.cells (tyFs (wd.heap.size + 1 + 1 + 1) (wd.heap.size + 1)) 46)).alloc (.cells #[.slice (some ⟨wd.heap.size + 1 + 1, 0, none⟩) 2 2, .slice (some ⟨wd.heap.size + 1 + 1 + 1 + 1, 0, none⟩) 2 2] 25)) none := grown_trans (grown_trans (grown_trans (grown_trans (grown_trans (grown_alloc _ _) (grown_alloc _ _)) (grown_alloc _ _)) (grown_alloc _ _)) (grown_alloc _ _)) (grown_alloc _ _)
      have q0 : ((((((wd.alloc (.cells (tyEC (w2.heap.size + 1 + 1) n) 51)).alloc (.cells (cellsS 5 0 0 [] (.slice (some ⟨wd.heap.size, 0, none⟩) 1 1) (.slice none 0 0) (.slice none 0 0)) 56)).alloc (.cells tyGs 41)).alloc (.cells #[.string ⟨#[112]⟩] 9)).alloc (.cells (tyFs (wd.heap.size + 1 + 1 + 1) (wd.heap.size + 1)) 46)).alloc (.cells #[.slice (some ⟨wd.heap.size + 1 + 1, 0, none⟩) 2 2, .slice (some ⟨wd.heap.size + 1 + 1 + 1 + 1, 0, none⟩) 2 2] 25)).heap[wd.heap.size]? = some (.cells (tyEC (w2.heap.size + 1 + 1) n) 51 (0, 0)) := alloc_past _ _ _ _ (by simp <;> omega) (alloc_past _ _ _ _ (by simp <;> omega) (alloc_past _ _ _ _ (by simp <;> omega) (alloc_past _ _ _ _ (by simp <;> omega) (alloc_past _ _ _ _ (by simp <;> omega) (alloc_at _ _ _ (by simp))))))
      have q1 : ((((((wd.alloc (.cells (tyEC (w2.heap.size + 1 + 1) n) 51)).alloc (.cells (cellsS 5 0 0 [] (.slice (some ⟨wd.heap.size, 0, none⟩) 1 1) (.slice none 0 0) (.slice none 0 0)) 56)).alloc (.cells tyGs 41)).alloc (.cells #[.string ⟨#[112]⟩] 9)).alloc (.cells (tyFs (wd.heap.size + 1 + 1 + 1) (wd.heap.size + 1)) 46)).alloc (.cells #[.slice (some ⟨wd.heap.size + 1 + 1, 0, none⟩) 2 2, .slice (some ⟨wd.heap.size + 1 + 1 + 1 + 1, 0, none⟩) 2 2] 25)).heap[wd.heap.size + 1]? = some (.cells (cellsS 5 0 0 [] (.slice (some ⟨wd.heap.size, 0, none⟩) 1 1) (.slice none 0 0) (.slice none 0 0)) 56 (0, 0)) := alloc_past _ _ _ _ (by simp <;> omega) (alloc_past _ _ _ _ (by simp <;> omega) (alloc_past _ _ _ _ (by simp <;> omega) (alloc_past _ _ _ _ (by simp <;> omega) (alloc_at _ _ _ (by simp)))))
      have q2 : ((((((wd.alloc (.cells (tyEC (w2.heap.size + 1 + 1) n) 51)).alloc (.cells (cellsS 5 0 0 [] (.slice (some ⟨wd.heap.size, 0, none⟩) 1 1) (.slice none 0 0) (.slice none 0 0)) 56)).alloc (.cells tyGs 41)).alloc (.cells #[.string ⟨#[112]⟩] 9)).alloc (.cells (tyFs (wd.heap.size + 1 + 1 + 1) (wd.heap.size + 1)) 46)).alloc (.cells #[.slice (some ⟨wd.heap.size + 1 + 1, 0, none⟩) 2 2, .slice (some ⟨wd.heap.size + 1 + 1 + 1 + 1, 0, none⟩) 2 2] 25)).heap[wd.heap.size + 1 + 1]? = some (.cells tyGs 41 (0, 0)) := alloc_past _ _ _ _ (by simp <;> omega) (alloc_past _ _ _ _ (by simp <;> omega) (alloc_past _ _ _ _ (by simp <;> omega) (alloc_at _ _ _ (by simp))))
      have q3 : ((((((wd.alloc (.cells (tyEC (w2.heap.size + 1 + 1) n) 51)).alloc (.cells (cellsS 5 0 0 [] (.slice (some ⟨wd.heap.size, 0, none⟩) 1 1) (.slice none 0 0) (.slice none 0 0)) 56)).alloc (.cells tyGs 41)).alloc (.cells #[.string ⟨#[112]⟩] 9)).alloc (.cells (tyFs (wd.heap.size + 1 + 1 + 1) (wd.heap.size + 1)) 46)).alloc (.cells #[.slice (some ⟨wd.heap.size + 1 + 1, 0, none⟩) 2 2, .slice (some ⟨wd.heap.size + 1 + 1 + 1 + 1, 0, none⟩) 2 2] 25)).heap[wd.heap.size + 1 + 1 + 1]? = some (.cells #[.string ⟨#[112]⟩] 9 (0, 0)) := alloc_past _ _ _ _ (by simp <;> omega) (alloc_past _ _ _ _ (by simp <;> omega) (alloc_at _ _ _ (by simp)))
      have q4 : ((((((wd.alloc (.cells (tyEC (w2.heap.size + 1 + 1) n) 51)).alloc (.cells (cellsS 5 0 0 [] (.slice (some ⟨wd.heap.size, 0, none⟩) 1 1) (.slice none 0 0) (.slice none 0 0)) 56)).alloc (.cells tyGs 41)).alloc (.cells #[.string ⟨#[112]⟩] 9)).alloc (.cells (tyFs (wd.heap.size + 1 + 1 + 1) (wd.heap.size + 1)) 46)).alloc (.cells #[.slice (some ⟨wd.heap.size + 1 + 1, 0, none⟩) 2 2, .slice (some ⟨wd.heap.size + 1 + 1 + 1 + 1, 0, none⟩) 2 2] 25)).heap[wd.heap.size + 1 + 1 + 1 + 1]? = some (.cells (tyFs (wd.heap.size + 1 + 1 + 1) (wd.heap.size + 1)) 46 (0, 0)) := alloc_past _ _ _ _ (by simp <;> omega) (alloc_at _ _ _ (by simp))
      have q5 : ((((((wd.alloc (.cells (tyEC (w2.heap.size + 1 + 1) n) 51)).alloc (.cells (cellsS 5 0 0 [] (.slice (some ⟨wd.heap.size, 0, none⟩) 1 1) (.slice none 0 0) (.slice none 0 0)) 56)).alloc (.cells tyGs 41)).alloc (.cells #[.string ⟨#[112]⟩] 9)).alloc (.cells (tyFs (wd.heap.size + 1 + 1 + 1) (wd.heap.size + 1)) 46)).alloc (.cells #[.slice (some ⟨wd.heap.size + 1 + 1, 0, none⟩) 2 2, .slice (some ⟨wd.heap.size + 1 + 1 + 1 + 1, 0, none⟩) 2 2] 25)).heap[wd.heap.size + 1 + 1 + 1 + 1 + 1]? = some (.cells #[.slice (some ⟨wd.heap.size + 1 + 1, 0, none⟩) 2 2, .slice (some ⟨wd.heap.size + 1 + 1 + 1 + 1, 0, none⟩) 2 2] 25 (0, 0)) := alloc_at _ _ _ (by simp)
      generalize ((((((wd.alloc (.cells (tyEC (w2.heap.size + 1 + 1) n) 51)).alloc (.cells (cellsS 5 0 0 [] (.slice (some ⟨wd.heap.size, 0, none⟩) 1 1) (.slice none 0 0) (.slice none 0 0)) 56)).alloc (.cells tyGs 41)).alloc (.cells #[.string ⟨#[112]⟩] 9)).alloc (.cells (tyFs (wd.heap.size + 1 + 1 + 1) (wd.heap.size + 1)) 46)).alloc (.cells #[.slice (some ⟨wd.heap.size + 1 + 1, 0, none⟩) 2 2, .slice (some ⟨wd.heap.size + 1 + 1 + 1 + 1, 0, none⟩) 2 2] 25)) = we at *
      have ht := HTD.out.later hge
      have HTE := Lib.hid ht
      have HCALL := Lib.hid (ty_call hk hh hn ht.b0 ht.b1 ht.b2 ht.bX q0 (by unfold tySC; rw [HD.out]; exact q1) q2 q3 q4)
      obtain ⟨⟨r0, r1⟩, _, _⟩ := two q5
      have hlq := (Array.getElem?_eq_some_iff.1 q5).1
      clear hge q0 q1 q2 q3 q4 q5 ht e0 e1 e2 e3 e4 e5 e6
      go_wp2_with (fail)
      refine HCALL.out.mono ?_
      rintro e w6 ⟨m1, m2, l, c, rfl, hg6⟩
      have HG6 := Lib.hid (grown_trans HTE.out.grown hg6)
      clear hg6
      go_wp2_with (fail)
      go_ret
      exact ⟨by simp, below_grown (grown_trans (grown_trans HG6.out (grown_alloc _ _)) (grown_alloc _ _)) (Nat.le_refl _)⟩
theorem all (op : Int) (ho : InI64 op) (a : Int) (ha : InI64 a) (b : Int) (hb : InI64 b) (w : World) (hg : Ground w) :
    Calls Tryz.prog 4 #[.int .i64 op, .int .i64 a, .int .i64 b] w fun e w' => e = .returned (.bool true) ∧ Below w.heap.size w w' :=
  types_core op a b _ _ _ (by have := Int.emod_lt_of_pos (a % 18446744073709551616) (show (0 : Int) < (6 : Nat) by decide); omega) (by have := Int.emod_lt_of_pos (b % 18446744073709551616) (show (0 : Int) < (6 : Nat) by decide); omega) (by have := Int.emod_lt_of_pos (op % 18446744073709551616) (show (0 : Int) < (17 : Nat) by decide); omega) (rem_at a 6 (by decide) (by decide)) (rem_at b 6 (by decide) (by decide)) (rem_at op 17 (by decide) (by decide)) w hg


theorem door_met (os : Os) (args : Array Value) : laidMetH Tryz.prog [("palings/ast.signs", Rows.laid_palings_ast_signs)] ((World.doorLaid Tryz.prog 4000 os).forCall (fun _ _ => 0) ⟨#[], args, []⟩).memory :=
  laidMetH_of_parts3 (fuel := 8) (laidMet_of_run' 8 (by kernel_rfl) (by kernel_rfl)) (by kernel_rfl) (by kernel_rfl)
theorem own : ownKnob Tryz.prog.godebug = none := by kernel_rfl

set_option maxHeartbeats 2000000 in
set_option maxRecDepth 100000 in
theorem lifted (os : Os) (started : os.Started) (H : Type) (enc : TypeId × Value → H) :
    ReturnsInHanded {} Tryz.checked os 4 .any (fun w args => (Rows.checkTypesSpec.pre enc Tryz.prog Tryz.f4 [] false w args ∧ laidMetH Tryz.prog [("palings/ast.signs", Rows.laid_palings_ast_signs)] w) ∧ sizedMet enc Tryz.prog Tryz.f4 (OpenSpec.ofChange Rows.checkTypesSpec) false w args)
      (Rows.checkTypesSpec.post enc Tryz.prog Tryz.f4 false true false false) := by
  refine returnsInHanded_of_change_and (C := Tryz.checked) (X := fun w _ => laidMetH Tryz.prog [("palings/ast.signs", Rows.laid_palings_ast_signs)] w) (fun _ _ _ hh h => h.of_heap hh) own started (by kernel_rfl) Tryz.func4
    (ChangeSpec.witness_shaped (enc := enc) (C := Tryz.checked) (os := os) (X := fun w _ => laidMetH Tryz.prog [("palings/ast.signs", Rows.laid_palings_ast_signs)] w) false (World.doorLaid Tryz.prog 4000 os) #[.int .i64 0, .int .i64 0, .int .i64 0] 8 rfl (World.shaped_of_RefB (by kernel_rfl) (by kernel_rfl)) (by kernel_rfl) (by kernel_rfl) (by kernel_rfl) (door_met os _)) ?_
  intro W base args ds gs before hval0 hW _ _ hL _
  have hval : ∀ (j : Nat) t v, Tryz.f4.params[j]? = some t → args[j]? = some v → Value.okWide Tryz.prog W .any base t v := hval0
  have hW' := hW
  obtain ⟨p, q, hA0, hV, rfl, hfz, hnd⟩ := hW
  have hA : DataW.TrodAll enc Tryz.prog W 0 (fun _ => true) true Tryz.f4.params.toList args.toList ds p := hA0
  rw [Tryz.params4] at hA hval
  obtain ⟨v0, vs0, d0, ds0, p0, q0, hargs, rfl, rfl, h0, r0⟩ := trodAll_cons hA
  obtain ⟨v1, vs1, d1, ds1, p1, q1, rfl, rfl, rfl, h1, r1⟩ := trodAll_cons r0
  obtain ⟨v2, vs2, d2, ds2, p2, q2, rfl, rfl, rfl, h2, r2⟩ := trodAll_cons r1
  obtain ⟨rfl, rfl, rfl⟩ := trodAll_nil r2
  obtain rfl : args = #[v0, v1, v2] := by cases args; simp_all
  obtain ⟨rfl, rfl⟩ := trodVars_none hV
  obtain ⟨a0, rfl, rfl, rfl, w0⟩ := open_int Tryz.underlying3 (hval 0 3 v0 rfl rfl) h0
  obtain ⟨a1, rfl, rfl, rfl, w1⟩ := open_int Tryz.underlying3 (hval 1 3 v1 rfl rfl) h1
  obtain ⟨a2, rfl, rfl, rfl, w2⟩ := open_int Tryz.underlying3 (hval 2 3 v2 rfl rfl) h2
  clear hA0 hval0
  simp only [List.append_nil] at hW'
  refine (all a0 (bounds_i64 w0) a1 (bounds_i64 w1) a2 (bounds_i64 w2) W (ground_of (by kernel_rfl) (by simp) hL)).mono fun e W' ⟨he, hg⟩ => ?_
  subst he
  exact ⟨_, rfl, post_new hW' (fun _ _ _ => (trodAll_cons_mk (shut_bool Tryz.underlying4 _) trodAll_mk0)) (fun sp => (trodAll_cons_mk (shut_int Tryz.underlying3 w0) (trodAll_cons_mk (shut_int Tryz.underlying3 w1) (trodAll_cons_mk (shut_int Tryz.underlying3 w2) trodAll_mk0)))) (fun _ => rfl) hg (ok_one (by kernel_rfl) rfl (okWide_bool_mk Tryz.underlying4 _))⟩

theorem row_holds : Rows.CheckTypesSaid :=
  OpenClaim.holds_of_wide 4 Tryz.f4 rfl rfl rfl rfl rfl rfl rfl ⟨rfl, rfl, rfl, rfl, rfl⟩ rfl rfl rfl rfl rfl (by kernel_rfl) Tryz.func4 (by kernel_rfl)
    (of_decide_eq_true (by kernel_rfl)) (by unfold Func.isWrapper; first | (rw [if_pos (by decide +kernel)]; kernel_rfl) | (rw [if_neg (by decide +kernel)]; exact ⟨rfl, rfl⟩))
    (fun os started H enc _ => lifted os started H enc)

/-- THE TIED CARD. -/
theorem proved : Rows.CheckTypesCardSaid :=
  Claim7.holds_tied_plain_at .later [] [.data] true (true, "c943f872ca2d9f9f81c620679e9a8bbe22fc0b1696667d16fa7e21e845c9e98a") false
    row_holds (fun _ h => by cases h) (by kernel_rfl) (fun _ h => by cases h) checkTypes_row_tie rfl ⟨rfl, rfl⟩ (by kernel_rfl) rfl
    (fun f fn hf hfn => by
      obtain rfl : f = 4 := Option.some.inj ((show Tryz.prog.funcNamed "palings/palingslaw05.CheckTypes" = some 4 by kernel_rfl).symm.trans hf) |>.symm
      obtain rfl : fn = Tryz.f4 := (Option.some.inj (Tryz.func4.symm.trans hfn)).symm
      exact ⟨by kernel_rfl, fun j t ht => by
        rw [Tryz.params4] at ht
        have hm : t ∈ [3, 3, 3] := by simpa using Array.mem_of_getElem? ht
        have hall : ([3, 3, 3].all fun u => !Tryz.prog.wantsStandIn u) = true := by kernel_rfl
        exact (show Tryz.prog.wantsStandIn t = false by simpa using List.all_eq_true.1 hall t hm)⟩)
    (by kernel_rfl)
#print axioms proved
end Go.Proofs.YtffgioifjdpajaaGreatDoor.checkTypes
