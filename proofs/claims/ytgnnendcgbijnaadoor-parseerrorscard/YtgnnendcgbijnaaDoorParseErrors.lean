/-
  ParseErrors: the texts that are no programs, and what the parser says of them.
  ParseErrors: for every two numbers the law returns true, and its arguments read as before. The package-level tables are as the program's text lays them (the card ties them).
-/
import Derived.Test.YtgnnendcgbijnaaDoorParAI
import Derived.Test.YtgnnendcgbijnaaDoorTie
import Derived.Test.YtgnnendcgbijnaaDoorCards
import Derived.ProofKit
import Derived.LaidMore
import Derived.OpenShut
import Derived.ShutString
import Derived.SliceStrings
import Derived.Stop.Joined
import Derived.SevenTiedAt
namespace Go.Proofs.YtgnnendcgbijnaaDoor
open Go.ChangeShapes Go.WideShapes Go.ChangeAt Go.RowKit
set_option linter.unusedVariables false

def errTab : List (List UInt8 × Int × Int) := [([102, 117, 110, 99], 5, 12), ([102, 117, 110, 99, 32, 102], 7, 12), ([102, 117, 110, 99, 32, 102, 40, 41], 9, 12), ([102, 117, 110, 99, 32, 102, 40, 97, 32, 98, 41, 32, 123, 125], 10, 12), ([102, 117, 110, 99, 32, 102, 40, 97, 44, 41, 32, 123, 125], 10, 12), ([102, 117, 110, 99, 32, 102, 40, 41, 32, 123, 32, 114, 101, 116, 117, 114, 110, 59, 32, 125], 18, 12), ([102, 117, 110, 99, 32, 102, 40, 41, 32, 123, 32, 97, 59, 32, 125], 13, 12), ([102, 117, 110, 99, 32, 102, 40, 41, 32, 123, 32, 49, 32, 61, 32, 50, 59, 32, 125], 14, 12), ([102, 117, 110, 99, 32, 102, 40, 41, 32, 123, 32, 108, 101, 116, 32, 49, 32, 61, 32, 50, 59, 32, 125], 16, 12), ([102, 117, 110, 99, 32, 102, 40, 41, 32, 123, 32, 105, 102, 32, 97, 32, 98, 59, 32, 125], 17, 12), ([102, 117, 110, 99, 32, 102, 40, 41, 32, 123, 32, 103, 40, 97, 32, 98, 41, 59, 32, 125], 16, 12), ([102, 117, 110, 99, 32, 102, 40, 41, 32, 123, 32, 114, 101, 116, 117, 114, 110, 32, 49, 32, 60, 32, 50, 32, 60, 32, 51, 59, 32, 125], 25, 12), ([118, 97, 114, 32, 97, 91, 48, 93, 59], 7, 31), ([118, 97, 114, 32, 97, 91, 52, 48, 57, 55, 93, 59], 7, 31), ([118, 97, 114, 32, 97, 91, 98, 93, 59], 7, 12), ([97], 1, 12), ([102, 117, 110, 99, 32, 102, 40, 41, 32, 123, 32, 114, 101, 116, 117, 114, 110, 32, 40, 49, 59, 32, 125], 21, 12), ([102, 117, 110, 99, 32, 102, 40, 41, 32, 123, 32, 120, 32, 61, 32, 49, 32, 125], 18, 12), ([102, 117, 110, 99, 32, 102, 40, 41, 32, 123, 32, 114, 101, 116, 117, 114, 110, 32, 97, 91, 49, 59, 32, 125], 22, 12), ([102, 117, 110, 99, 32, 102, 40, 41, 32, 123, 32, 36, 32, 125], 12, 10)]
def errText (k : Nat) : List UInt8 := (errTab.getD k ([], 0, 0)).1
def errCol (k : Nat) : Int := (errTab.getD k ([], 0, 0)).2.1
def errNo (k : Nat) : Int := (errTab.getD k ([], 0, 0)).2.2
def varOk : List UInt8 := [118, 97, 114, 32, 111, 107, 59, 10]
def errOne (k p : Nat) : Bool :=
  (parseL (List.replicate p 32 ++ errText k)).2 == (errNo k, 1, errCol k + p) && (parseL (varOk ++ List.replicate p 32 ++ errText k)).2 == (errNo k, 2, errCol k + p)
set_option maxRecDepth 100000 in
theorem errs_all : ((List.range 20).all fun k => (List.range 16).all fun p => errOne k p) = true := by kernel_rfl
theorem errs_at {k p : Nat} (hk : k < 20) (hp : p < 16) : (parseL (List.replicate p 32 ++ errText k)).2 = (errNo k, 1, errCol k + p) ∧ (parseL (varOk ++ List.replicate p 32 ++ errText k)).2 = (errNo k, 2, errCol k + p) := by
  have h := List.all_eq_true.1 (List.all_eq_true.1 errs_all k (by simpa using hk)) p (by simpa using hp)
  unfold errOne at h
  simpa using h
theorem parse_bad (l : List UInt8) (h : (parseL l).2.1 ≠ 0) : (parseL l).1 = ⟨[], []⟩ := by
  revert h
  unfold parseL
  split
  · intro _; rfl
  · split
    · intro h; exact absurd rfl h
    · intro _; rfl
theorem errNo_ne : ∀ k, k < 20 → errNo k ≠ 0 ∧ (errText k).length ≤ 40 ∧ 0 ≤ errCol k ∧ errCol k ≤ 40 := by decide
end Go.Proofs.YtgnnendcgbijnaaDoor

namespace Go.Proofs.YtgnnendcgbijnaaDoor.parseErrors
open Go.ChangeShapes Go.WideShapes Go.ChangeAt Go.WideMaps Go.WideElems Go.RowKit
open Go.ChangeMaps (open_string shut_string)
set_option linter.unusedVariables false

def errCells : Array Value := #[.string ⟨#[102, 117, 110, 99]⟩, .int .i64 5, .int .i64 12, .string ⟨#[102, 117, 110, 99, 32, 102]⟩, .int .i64 7, .int .i64 12, .string ⟨#[102, 117, 110, 99, 32, 102, 40, 41]⟩, .int .i64 9, .int .i64 12, .string ⟨#[102, 117, 110, 99, 32, 102, 40, 97, 32, 98, 41, 32, 123, 125]⟩, .int .i64 10, .int .i64 12, .string ⟨#[102, 117, 110, 99, 32, 102, 40, 97, 44, 41, 32, 123, 125]⟩, .int .i64 10, .int .i64 12, .string ⟨#[102, 117, 110, 99, 32, 102, 40, 41, 32, 123, 32, 114, 101, 116, 117, 114, 110, 59, 32, 125]⟩, .int .i64 18, .int .i64 12, .string ⟨#[102, 117, 110, 99, 32, 102, 40, 41, 32, 123, 32, 97, 59, 32, 125]⟩, .int .i64 13, .int .i64 12, .string ⟨#[102, 117, 110, 99, 32, 102, 40, 41, 32, 123, 32, 49, 32, 61, 32, 50, 59, 32, 125]⟩, .int .i64 14, .int .i64 12, .string ⟨#[102, 117, 110, 99, 32, 102, 40, 41, 32, 123, 32, 108, 101, 116, 32, 49, 32, 61, 32, 50, 59, 32, 125]⟩, .int .i64 16, .int .i64 12, .string ⟨#[102, 117, 110, 99, 32, 102, 40, 41, 32, 123, 32, 105, 102, 32, 97, 32, 98, 59, 32, 125]⟩, .int .i64 17, .int .i64 12, .string ⟨#[102, 117, 110, 99, 32, 102, 40, 41, 32, 123, 32, 103, 40, 97, 32, 98, 41, 59, 32, 125]⟩, .int .i64 16, .int .i64 12, .string ⟨#[102, 117, 110, 99, 32, 102, 40, 41, 32, 123, 32, 114, 101, 116, 117, 114, 110, 32, 49, 32, 60, 32, 50, 32, 60, 32, 51, 59, 32, 125]⟩, .int .i64 25, .int .i64 12, .string ⟨#[118, 97, 114, 32, 97, 91, 48, 93, 59]⟩, .int .i64 7, .int .i64 31, .string ⟨#[118, 97, 114, 32, 97, 91, 52, 48, 57, 55, 93, 59]⟩, .int .i64 7, .int .i64 31, .string ⟨#[118, 97, 114, 32, 97, 91, 98, 93, 59]⟩, .int .i64 7, .int .i64 12, .string ⟨#[97]⟩, .int .i64 1, .int .i64 12, .string ⟨#[102, 117, 110, 99, 32, 102, 40, 41, 32, 123, 32, 114, 101, 116, 117, 114, 110, 32, 40, 49, 59, 32, 125]⟩, .int .i64 21, .int .i64 12, .string ⟨#[102, 117, 110, 99, 32, 102, 40, 41, 32, 123, 32, 120, 32, 61, 32, 49, 32, 125]⟩, .int .i64 18, .int .i64 12, .string ⟨#[102, 117, 110, 99, 32, 102, 40, 41, 32, 123, 32, 114, 101, 116, 117, 114, 110, 32, 97, 91, 49, 59, 32, 125]⟩, .int .i64 22, .int .i64 12, .string ⟨#[102, 117, 110, 99, 32, 102, 40, 41, 32, 123, 32, 36, 32, 125]⟩, .int .i64 12, .int .i64 10]
theorem errCells_at : ∀ k, k < 20 → errCells[3 * k]? = some (.string ⟨(errText k).toArray⟩) ∧ errCells[3 * k + 1]? = some (.int .i64 (errCol k)) ∧ errCells[3 * k + 2]? = some (.int .i64 (errNo k)) := by
  intro k hk
  have : k = 0 ∨ k = 1 ∨ k = 2 ∨ k = 3 ∨ k = 4 ∨ k = 5 ∨ k = 6 ∨ k = 7 ∨ k = 8 ∨ k = 9 ∨ k = 10 ∨ k = 11 ∨ k = 12 ∨ k = 13 ∨ k = 14 ∨ k = 15 ∨ k = 16 ∨ k = 17 ∨ k = 18 ∨ k = 19 := by omega
  rcases this with rfl | rfl | rfl | rfl | rfl | rfl | rfl | rfl | rfl | rfl | rfl | rfl | rfl | rfl | rfl | rfl | rfl | rfl | rfl | rfl <;> exact ⟨rfl, rfl, rfl⟩
theorem fns_none {w : World} {S : Nat → Prop} {v : Value} (h : FnsAt w S [] v) : ∃ a c, v = .slice a 0 c := by
  rcases h with ⟨_, a, cap, rfl⟩ | ⟨h, _⟩
  · exact ⟨_, _, rfl⟩
  · exact absurd rfl h
theorem cat_one (j : Nat) : (⟨(List.replicate j 32).toArray⟩ : ByteArray) ++ ⟨#[32]⟩ = ⟨(List.replicate (j + 1) 32).toArray⟩ := by
  apply ByteArray.ext
  rw [ByteArray.data_append]
  apply Array.toList_inj.1
  simp [List.replicate_succ']
set_option maxHeartbeats 4000000 in
set_option maxRecDepth 100000 in
theorem errors_core (a b : Int) (k p : Nat) (hk : k < 20) (hp : p < 16) (hka : wrap64 ((IntKind.u64.wrap a).tmod 20) = (k : Int)) (hpb : bits .and .i64 b 15 = (p : Int)) (w : World) (hg : Ground w) :
    Calls Tryd.prog 3 #[.int .i64 a, .int .i64 b] w fun e w' => e = .returned (.bool true) ∧ Below w.heap.size w w' := by
  have HG := Lib.hid hg; have HPB := Lib.hid hpb; have HKA := Lib.hid hka
  clear hg hpb hka
  go_enter Tryd.func3, Tryd.ntmps3
  go_wp2_with (fail)
  refine (head_any _ HG.out).mono ?_
  rintro e w1 ⟨rfl, hg1⟩
  have HG1 := Lib.hid hg1
  clear hg1
  go_upto_region 4 with (fail)
  change Code.wp _ _ _ _ (w1.alloc (.cells errCells 24))
  obtain ⟨w2, hw2⟩ : ∃ w2, w2 = w1.alloc (.cells errCells 24) := ⟨_, rfl⟩
  rw [← hw2]
  have hc := errCells_at k hk
  have hh : w2.heap[w1.heap.size]? = some (.cells errCells 24 (0, 0)) := by rw [hw2]; exact alloc_at _ _ _ rfl
  have c0 : w2.cell? ⟨w1.heap.size, k * 3, none⟩ = some (.string ⟨(errText k).toArray⟩) := by rw [Lib.cell_of_heap hh, Nat.mul_comm]; exact hc.1
  have c1 : w2.cell? ⟨w1.heap.size, k * 3 + 1, none⟩ = some (.int .i64 (errCol k)) := by rw [Lib.cell_of_heap hh, Nat.mul_comm]; exact hc.2.1
  have c2 : w2.cell? ⟨w1.heap.size, k * 3 + 2, none⟩ = some (.int .i64 (errNo k)) := by rw [Lib.cell_of_heap hh, Nat.mul_comm]; exact hc.2.2
  have hlt : w1.heap.size < w2.heap.size := by rw [hw2]; simp
  have HG2 := Lib.hid (grown_trans HG1.out (show w1.grownBy w2 none by rw [hw2]; exact grown_alloc _ _))
  clear hc hh hw2
  have hka := HKA.out
  obtain ⟨e1, e2, e3, e4⟩ := errNo_ne k hk
  have E1 := Lib.hid e1
  clear e1
  go_upto_region 7 with (fail)
  go_loop [7, 8] (fun t i => ∃ j : Nat, j ≤ p ∧ i = .int .i64 j ∧ t = .string ⟨(List.replicate j 32).toArray⟩) (fun _ i => p - (intOf i).toNat)
  case atStart => exact ⟨0, Nat.zero_le _, rfl, rfl⟩
  case round =>
    obtain ⟨j, hj, rfl, rfl⟩ := hrel
    have hbl : (⟨(List.replicate j 32).toArray⟩ : ByteArray).size = j := by simp [ByteArray.size]
    by_cases hlt2 : j < p
    · have hcat : (⟨(List.replicate j 32).toArray⟩ : ByteArray) ++ ⟨#[32]⟩ = ⟨(List.replicate (j + 1) 32).toArray⟩ := cat_one j
      have HCAT := Lib.hid hcat
      clear hcat
      generalize (⟨(List.replicate j 32).toArray⟩ : ByteArray) = S at hbl HCAT
      have hS : S.size ≤ 16 := by omega
      clear hbl
      have hpb := HPB.out
      go_wp2_with (fail)
      go_round
      case rel => exact ⟨j + 1, by omega, by go_num, by rw [HCAT.out]⟩
      case measure => simp [intOf]; omega
    · obtain rfl : p = j := by omega
      have hpb := HPB.out
      clear hlt2
      generalize hS : (⟨(List.replicate p 32).toArray⟩ : ByteArray) = S at hbl
      generalize hT : (⟨(errText k).toArray⟩ : ByteArray) = T at *
      have hSs : S.size ≤ 16 := by omega
      have hTs : T.size ≤ 40 := by rw [← hT]; simpa [ByteArray.size] using e2
      have HS := Lib.hid hS; have HT := Lib.hid hT
      clear hS hT hbl
      go_wp2_with (fail)
      have hx3 : w.grownBy (w2.alloc (.cells #[.string T, .int .i64 (errCol k), .int .i64 (errNo k)] 24)) none := grown_trans HG2.out (grown_alloc _ _)
      have HX3 := Lib.hid hx3
      have hh3 : (w2.alloc (.cells #[.string T, .int .i64 (errCol k), .int .i64 (errNo k)] 24)).heap[w2.heap.size]? = some (.cells #[.string T, .int .i64 (errCol k), .int .i64 (errNo k)] 24 (0, 0)) := alloc_at _ _ _ rfl
      have HH3 := Lib.hid hh3
      clear hx3 hh3 c0 c1 c2
      refine (Program_any _ (by rw [ByteArray.size_append]; omega) _ (HG.out.more HX3.out).signs).mono ?_
      intro e w4 hp4
      have hl4 : (S ++ T).data.toList = List.replicate p 32 ++ errText k := by rw [← HS.out, ← HT.out, ByteArray.data_append]; simp
      rw [hl4] at hp4
      have hr4 := (errs_at hk hp).1
      obtain ⟨cs, rfl, hat4, hgr4⟩ := hp4
      rw [parse_bad _ (by rw [hr4]; exact E1.out)] at hat4
      rw [hr4]
      obtain ⟨gv4, fv4, rfl, hgl4, hfn4⟩ := hat4
      obtain ⟨ga4, gk4, gc4, rfl⟩ := hgl4.slice
      obtain ⟨fa4, fc4, rfl⟩ := fns_none hfn4
      have HGR4 := Lib.hid hgr4
      have hh4 := Lib.hid (show w4.heap[w2.heap.size]? = _ from (hgr4.block _ (by simp) (by simp)).trans HH3.out)
      obtain ⟨⟨x0, x1, x2⟩, _, _, _⟩ := three hh4.out
      have hz4 : w2.heap.size < w4.heap.size := by have := hgr4.size; simp at this; omega
      clear hgl4 hfn4 hgr4 hl4 hr4
      go_wp2_with (fail)
      have hg5 : w4.grownBy ((w4.alloc (.cells #[.slice ga4 gk4 gc4, .slice fa4 0 fc4] 30)).alloc (.cells #[.int .i64 (errNo k), .int .i64 1, .int .i64 (errCol k + p)] 34)) none := grown_trans (grown_alloc _ _) (grown_alloc _ _)
      have HX5 := Lib.hid (grown_trans (grown_trans HX3.out HGR4.out) hg5)
      have hpa := Lib.hid (alloc_past (w4.alloc (.cells #[.slice ga4 gk4 gc4, .slice fa4 0 fc4] 30)) (.cells #[.int .i64 (errNo k), .int .i64 1, .int .i64 (errCol k + p)] 34) _ _ (by simp) (alloc_at w4 (.cells #[.slice ga4 gk4 gc4, .slice fa4 0 fc4] 30) _ rfl))
      have hfa := Lib.hid (alloc_at (w4.alloc (.cells #[.slice ga4 gk4 gc4, .slice fa4 0 fc4] 30)) (.cells #[.int .i64 (errNo k), .int .i64 1, .int .i64 (errCol k + p)] 34) _ rfl)
      have hxa := Lib.hid ((hg5.block _ hz4 (by simp)).trans hh4.out)
      clear hg5 x0 x1 x2
      refine (Program_any _ (by rw [ByteArray.size_append, ByteArray.size_append]; have : (⟨#[118, 97, 114, 32, 111, 107, 59, 10]⟩ : ByteArray).size = 8 := rfl; omega) _ (HG.out.more HX5.out).signs).mono ?_
      intro e w6 hp6
      have hl6 : ((⟨#[118, 97, 114, 32, 111, 107, 59, 10]⟩ : ByteArray) ++ S ++ T).data.toList = varOk ++ List.replicate p 32 ++ errText k := by rw [← HS.out, ← HT.out, ByteArray.data_append, ByteArray.data_append]; simp [varOk]
      rw [hl6] at hp6
      have hr6 := (errs_at hk hp).2
      obtain ⟨cs, rfl, hat6, hgr6⟩ := hp6
      rw [parse_bad _ (by rw [hr6]; exact E1.out)] at hat6
      rw [hr6]
      obtain ⟨gv6, fv6, rfl, hgl6, hfn6⟩ := hat6
      obtain ⟨ga6, gk6, gc6, rfl⟩ := hgl6.slice
      obtain ⟨fa6, fc6, rfl⟩ := fns_none hfn6
      have HX6 := Lib.hid (grown_trans HX5.out hgr6)
      have hz6 : w4.heap.size + 2 ≤ w6.heap.size := by have := hgr6.size; simpa using this
      obtain ⟨⟨x0, x1, x2⟩, _, _, _⟩ := three ((hgr6.block _ (by simp; omega) (by simp)).trans hxa.out)
      obtain ⟨⟨y0, y1⟩, _, _⟩ := two ((hgr6.block _ (by simp only [World.size_alloc]; omega) (by simp)).trans hpa.out)
      obtain ⟨⟨z0, z1, z2⟩, _, _, _⟩ := three ((hgr6.block _ (by simp only [World.size_alloc]; omega) (by simp)).trans hfa.out)
      simp only [World.size_alloc] at z0 z1 z2
      have q1 : w2.heap.size < w6.heap.size := by omega
      have q2 : w4.heap.size < w6.heap.size := by omega
      have q3 : w4.heap.size + 1 < w6.heap.size := by omega
      clear hgl6 hfn6 hgr6 hl6 hr6
      go_wp2_with (fail)
      go_ret
      exact ⟨rfl, below_grown (grown_trans (grown_trans HX6.out (grown_alloc _ _)) (grown_alloc _ _)) (Nat.le_refl _)⟩
theorem all (a : Int) (ha : InI64 a) (b : Int) (hb : InI64 b) (w : World) (hg : Ground w) :
    Calls Tryd.prog 3 #[.int .i64 a, .int .i64 b] w fun e w' => e = .returned (.bool true) ∧ Below w.heap.size w w' :=
  errors_core a b _ _ (by have := Int.emod_lt_of_pos (a % 18446744073709551616) (show (0 : Int) < (20 : Nat) by decide); omega) (by omega) (rem_at a 20 (by decide) (by decide)) (and15 b) w hg


theorem door_met (os : Os) (args : Array Value) : laidMetH Tryd.prog [("math/bits.deBruijn32tab", Rows.laid_math_bits_deBruijn32tab), ("math/bits.deBruijn64tab", Rows.laid_math_bits_deBruijn64tab), ("internal/strconv.uint64pow10", Rows.laid_internal_strconv_uint64pow10), ("palings/ast.signs", Rows.laid_palings_ast_signs)] ((World.doorLaid Tryd.prog 4000 os).forCall (fun _ _ => 0) ⟨#[], args, []⟩).memory :=
  laidMetH_of_parts3 (fuel := 8) (laidMet_of_run' 8 (by kernel_rfl) (by kernel_rfl)) (by kernel_rfl) (by kernel_rfl)
theorem own : ownKnob Tryd.prog.godebug = none := by kernel_rfl

set_option maxHeartbeats 2000000 in
set_option maxRecDepth 100000 in
theorem lifted (os : Os) (started : os.Started) (H : Type) (enc : TypeId × Value → H) :
    ReturnsInHanded {} Tryd.checked os 3 .any (fun w args => (Rows.parseErrorsSpec.pre enc Tryd.prog Tryd.f3 [] false w args ∧ laidMetH Tryd.prog [("math/bits.deBruijn32tab", Rows.laid_math_bits_deBruijn32tab), ("math/bits.deBruijn64tab", Rows.laid_math_bits_deBruijn64tab), ("internal/strconv.uint64pow10", Rows.laid_internal_strconv_uint64pow10), ("palings/ast.signs", Rows.laid_palings_ast_signs)] w) ∧ sizedMet enc Tryd.prog Tryd.f3 (OpenSpec.ofChange Rows.parseErrorsSpec) false w args)
      (Rows.parseErrorsSpec.post enc Tryd.prog Tryd.f3 false true false false) := by
  refine returnsInHanded_of_change_and (C := Tryd.checked) (X := fun w _ => laidMetH Tryd.prog [("math/bits.deBruijn32tab", Rows.laid_math_bits_deBruijn32tab), ("math/bits.deBruijn64tab", Rows.laid_math_bits_deBruijn64tab), ("internal/strconv.uint64pow10", Rows.laid_internal_strconv_uint64pow10), ("palings/ast.signs", Rows.laid_palings_ast_signs)] w) (fun _ _ _ hh h => h.of_heap hh) own started (by kernel_rfl) Tryd.func3
    (ChangeSpec.witness_shaped (enc := enc) (C := Tryd.checked) (os := os) (X := fun w _ => laidMetH Tryd.prog [("math/bits.deBruijn32tab", Rows.laid_math_bits_deBruijn32tab), ("math/bits.deBruijn64tab", Rows.laid_math_bits_deBruijn64tab), ("internal/strconv.uint64pow10", Rows.laid_internal_strconv_uint64pow10), ("palings/ast.signs", Rows.laid_palings_ast_signs)] w) false (World.doorLaid Tryd.prog 4000 os) #[.int .i64 0, .int .i64 0] 8 rfl (World.shaped_of_RefB (by kernel_rfl) (by kernel_rfl)) (by kernel_rfl) (by kernel_rfl) (by kernel_rfl) (door_met os _)) ?_
  intro W base args ds gs before hval0 hW _ _ hL _
  have hval : ∀ (j : Nat) t v, Tryd.f3.params[j]? = some t → args[j]? = some v → Value.okWide Tryd.prog W .any base t v := hval0
  have hW' := hW
  obtain ⟨p, q, hA0, hV, rfl, hfz, hnd⟩ := hW
  have hA : DataW.TrodAll enc Tryd.prog W 0 (fun _ => true) true Tryd.f3.params.toList args.toList ds p := hA0
  rw [Tryd.params3] at hA hval
  obtain ⟨v0, vs0, d0, ds0, p0, q0, hargs, rfl, rfl, h0, r0⟩ := trodAll_cons hA
  obtain ⟨v1, vs1, d1, ds1, p1, q1, rfl, rfl, rfl, h1, r1⟩ := trodAll_cons r0
  obtain ⟨rfl, rfl, rfl⟩ := trodAll_nil r1
  obtain rfl : args = #[v0, v1] := by cases args; simp_all
  obtain ⟨rfl, rfl⟩ := trodVars_none hV
  obtain ⟨a0, rfl, rfl, rfl, w0⟩ := open_int Tryd.underlying3 (hval 0 3 v0 rfl rfl) h0
  obtain ⟨a1, rfl, rfl, rfl, w1⟩ := open_int Tryd.underlying3 (hval 1 3 v1 rfl rfl) h1
  clear hA0 hval0
  simp only [List.append_nil] at hW'
  refine (all a0 (bounds_i64 w0) a1 (bounds_i64 w1) W (ground_of (by kernel_rfl) (by simp) (by simp) hL)).mono fun e W' ⟨he, hg⟩ => ?_
  subst he
  exact ⟨_, rfl, post_new hW' (fun _ _ _ => (trodAll_cons_mk (shut_bool Tryd.underlying4 _) trodAll_mk0)) (fun sp => (trodAll_cons_mk (shut_int Tryd.underlying3 w0) (trodAll_cons_mk (shut_int Tryd.underlying3 w1) trodAll_mk0))) (fun _ => rfl) hg (ok_one (by kernel_rfl) rfl (okWide_bool_mk Tryd.underlying4 _))⟩

theorem row_holds : Rows.ParseErrorsSaid :=
  OpenClaim.holds_of_wide 3 Tryd.f3 rfl rfl rfl rfl rfl rfl rfl ⟨rfl, rfl, rfl, rfl, rfl⟩ rfl rfl rfl rfl rfl (by kernel_rfl) Tryd.func3 (by kernel_rfl)
    (of_decide_eq_true (by kernel_rfl)) (by unfold Func.isWrapper; first | (rw [if_pos (by decide +kernel)]; kernel_rfl) | (rw [if_neg (by decide +kernel)]; exact ⟨rfl, rfl⟩))
    (fun os started H enc _ => lifted os started H enc)

/-- THE TIED CARD. -/
theorem proved : Rows.ParseErrorsCardSaid :=
  Claim7.holds_tied_plain_at .later [] [.data, .data, .data, .data] true (true, "610b11168ef55bf6870f634f4d0465f649b1fd268af35aca64eca690de79b1ed") false
    row_holds (fun _ h => by cases h) (by kernel_rfl) (fun _ h => by cases h) parseErrors_row_tie rfl ⟨rfl, rfl⟩ (by kernel_rfl) rfl
    (fun f fn hf hfn => by
      obtain rfl : f = 3 := Option.some.inj ((show Tryd.prog.funcNamed "palings/palingslaw04.ParseErrors" = some 3 by kernel_rfl).symm.trans hf) |>.symm
      obtain rfl : fn = Tryd.f3 := (Option.some.inj (Tryd.func3.symm.trans hfn)).symm
      exact ⟨by kernel_rfl, fun j t ht => by
        rw [Tryd.params3] at ht
        have hm : t ∈ [3, 3] := by simpa using Array.mem_of_getElem? ht
        have hall : ([3, 3].all fun u => !Tryd.prog.wantsStandIn u) = true := by kernel_rfl
        exact (show Tryd.prog.wantsStandIn t = false by simpa using List.all_eq_true.1 hall t hm)⟩)
    (by kernel_rfl)
#print axioms proved
end Go.Proofs.YtgnnendcgbijnaaDoor.parseErrors
