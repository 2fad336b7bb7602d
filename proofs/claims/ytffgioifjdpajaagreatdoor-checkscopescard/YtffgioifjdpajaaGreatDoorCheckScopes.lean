/-
  CheckScopes holds for all its inputs: what is let is known to its block's end, not ahead of it, and not behind it. Conditions: the tables of the package start as the program's text lays them (the tied card).
-/
import Derived.Test.YtffgioifjdpajaaGreatDoorTie
import Derived.Test.YtffgioifjdpajaaGreatDoorCards
import Derived.Test.YtffgioifjdpajaaGreatDoorChkU
import Derived.Test.YtffgioifjdpajaaGreatDoorMask
import Derived.Test.YtffgioifjdpajaaGreatDoorLd
import Derived.ProofKit
import Derived.LaidMore
import Derived.OpenShut
import Derived.ShutString
import Derived.SliceStrings
import Derived.Stop.Joined
import Derived.SevenTiedAt
namespace Go.Proofs.YtffgioifjdpajaaGreatDoor.checkScopes
open Go.ChangeShapes Go.WideShapes Go.ChangeAt Go.WideMaps Go.WideElems Go.RowKit
open Go.ChangeMaps (open_string shut_string)
set_option linter.unusedVariables false

def atS (n on : Int) (s : ByteArray) : ByteArray := if n = on then s else ⟨#[]⟩
theorem atS_size (n on : Int) (s : ByteArray) (h : s.size ≤ 11) : (atS n on s).size ≤ 11 := by
  unfold atS; split
  · exact h
  · decide
set_option maxHeartbeats 1000000 in
set_option maxRecDepth 100000 in
theorem at_call (n on : Int) (s : ByteArray) (w : World) : Calls Tryz.prog 15 #[.int .i64 n, .string s, .int .i64 on] w fun e w' => e = .returned (.string (atS n on s)) ∧ w' = w := by
  by_cases h : n = on
  · subst h
    have HE := Lib.hid (show atS n n s = s by unfold atS; rw [if_pos rfl])
    rw [HE.out]
    clear HE
    go_enter Tryz.func15, Tryz.ntmps15
    go_wp2_with (fail)
    go_ret
    exact ⟨rfl, rfl⟩
  · have HE := Lib.hid (show atS n on s = ⟨#[]⟩ by unfold atS; rw [if_neg h])
    rw [HE.out]
    have q : (n == on) = false := by simpa using h
    clear HE h
    go_enter Tryz.func15, Tryz.ntmps15
    go_wp2_with (fail)
    go_ret
    exact ⟨rfl, rfl⟩
def letB : ByteArray := ⟨#[108, 101, 116, 32, 118, 32, 61, 32, 49, 59, 32]⟩
def sayB : ByteArray := ⟨#[103, 32, 61, 32, 118, 59, 32]⟩
def scopesT (k u : Int) : ByteArray := ⟨#[118, 97, 114, 32, 103, 59, 32, 102, 117, 110, 99, 32, 109, 97, 105, 110, 40, 41, 32, 123, 32]⟩ ++ atS k 0 letB ++ atS u 0 sayB ++ ⟨#[105, 102, 32, 116, 114, 117, 101, 32, 123, 32]⟩ ++ atS k 1 letB ++ atS u 1 sayB ++ ⟨#[125, 32, 101, 108, 115, 101, 32, 123, 32]⟩ ++ atS k 2 letB ++ atS u 2 sayB ++ ⟨#[125, 32]⟩ ++ atS k 3 letB ++ atS u 3 sayB ++ ⟨#[114, 101, 116, 117, 114, 110, 32, 48, 59, 32, 125]⟩
def twiceT (j : Int) : ByteArray := ⟨#[118, 97, 114, 32, 103, 59, 32, 102, 117, 110, 99, 32, 109, 97, 105, 110, 40, 41, 32, 123, 32]⟩ ++ letB ++ ⟨#[105, 102, 32, 116, 114, 117, 101, 32, 123, 32]⟩ ++ atS j 0 letB ++ ⟨#[125, 32]⟩ ++ atS j 1 letB ++ ⟨#[125]⟩
def scOk (k u : Nat) : Bool := u == k || k == 0
def scAll : Bool := (List.range 4).all fun k => (List.range 4).all fun u => prFit (parseL (scopesT k u).data.toList).1 && (ckTx (scopesT k u).data.toList).1 == (if scOk k u then 0 else 21)
theorem scAll_true : scAll = true := by kernel_rfl
def twAll : Bool := (List.range 2).all fun j => prFit (parseL (twiceT j).data.toList).1 && (ckTx (twiceT j).data.toList).1 == 20
theorem twAll_true : twAll = true := by kernel_rfl
theorem sc_at {k u : Nat} (hk : k < 4) (hu : u < 4) : prFit (parseL (scopesT k u).data.toList).1 = true ∧ (ckTx (scopesT k u).data.toList).1 = (if scOk k u then 0 else 21) := by
  have q := List.all_eq_true.1 (List.all_eq_true.1 scAll_true k (List.mem_range.2 hk)) u (List.mem_range.2 hu)
  simp only [Bool.and_eq_true, beq_iff_eq] at q
  exact q
theorem tw_at {j : Nat} (hj : j < 2) : prFit (parseL (twiceT j).data.toList).1 = true ∧ (ckTx (twiceT j).data.toList).1 = 20 := by
  have q := List.all_eq_true.1 twAll_true j (List.mem_range.2 hj)
  simp only [Bool.and_eq_true, beq_iff_eq] at q
  exact q
theorem scopes_size (k u : Int) : (scopesT k u).size ≤ 1000 := by
  unfold scopesT
  simp only [ByteArray.size_append]
  have h0 := atS_size k 0 letB (by decide); have h1 := atS_size k 1 letB (by decide); have h2 := atS_size k 2 letB (by decide); have h3 := atS_size k 3 letB (by decide)
  have g0 := atS_size u 0 sayB (by decide); have g1 := atS_size u 1 sayB (by decide); have g2 := atS_size u 2 sayB (by decide); have g3 := atS_size u 3 sayB (by decide)
  have e0 : (⟨#[118, 97, 114, 32, 103, 59, 32, 102, 117, 110, 99, 32, 109, 97, 105, 110, 40, 41, 32, 123, 32]⟩ : ByteArray).size = 21 := rfl
  have e1 : (⟨#[105, 102, 32, 116, 114, 117, 101, 32, 123, 32]⟩ : ByteArray).size = 10 := rfl
  have e2 : (⟨#[125, 32, 101, 108, 115, 101, 32, 123, 32]⟩ : ByteArray).size = 9 := rfl
  have e3 : (⟨#[125, 32]⟩ : ByteArray).size = 2 := rfl
  have e4 : (⟨#[114, 101, 116, 117, 114, 110, 32, 48, 59, 32, 125]⟩ : ByteArray).size = 11 := rfl
  have e5 : (⟨#[125]⟩ : ByteArray).size = 1 := rfl
  omega
theorem twice_size (j : Int) : (twiceT j).size ≤ 1000 := by
  unfold twiceT
  simp only [ByteArray.size_append]
  have h0 := atS_size j 0 letB (by decide); have h1 := atS_size j 1 letB (by decide)
  have hl : letB.size = 11 := rfl
  have e0 : (⟨#[118, 97, 114, 32, 103, 59, 32, 102, 117, 110, 99, 32, 109, 97, 105, 110, 40, 41, 32, 123, 32]⟩ : ByteArray).size = 21 := rfl
  have e1 : (⟨#[105, 102, 32, 116, 114, 117, 101, 32, 123, 32]⟩ : ByteArray).size = 10 := rfl
  have e2 : (⟨#[125, 32, 101, 108, 115, 101, 32, 123, 32]⟩ : ByteArray).size = 9 := rfl
  have e3 : (⟨#[125, 32]⟩ : ByteArray).size = 2 := rfl
  have e4 : (⟨#[114, 101, 116, 117, 114, 110, 32, 48, 59, 32, 125]⟩ : ByteArray).size = 11 := rfl
  have e5 : (⟨#[125]⟩ : ByteArray).size = 1 := rfl
  omega
theorem and1 (k : Nat) (hk : k < 4) : bits .and .i64 (k : Int) 1 = ((k % 2 : Nat) : Int) := by
  have : k = 0 ∨ k = 1 ∨ k = 2 ∨ k = 3 := by omega
  rcases this with rfl | rfl | rfl | rfl <;> rfl
set_option maxHeartbeats 4000000 in
set_option maxRecDepth 100000 in
theorem scopes_core (a b : Int) (k u : Nat) (hk : k < 4) (hu : u < 4) (hka : wrap64 ((IntKind.u64.wrap a).tmod 4) = (k : Int)) (hub : wrap64 ((IntKind.u64.wrap b).tmod 4) = (u : Int)) (w : World) (hg : Ground w) :
    Calls Tryz.prog 5 #[.int .i64 a, .int .i64 b] w fun e w' => e = .returned (.bool true) ∧ Below w.heap.size w w' := by
  obtain ⟨hf1, ht1⟩ := sc_at hk hu
  obtain ⟨hf2, ht2⟩ := tw_at (j := k % 2) (by omega)
  have HG := Lib.hid hg; have HF1 := Lib.hid hf1; have HT1 := Lib.hid ht1; have HF2 := Lib.hid hf2; have HT2 := Lib.hid ht2
  have HD1 := Lib.hid (show scopesT k u = (⟨#[118, 97, 114, 32, 103, 59, 32, 102, 117, 110, 99, 32, 109, 97, 105, 110, 40, 41, 32, 123, 32]⟩ : ByteArray) ++ atS k 0 letB ++ atS u 0 sayB ++ (⟨#[105, 102, 32, 116, 114, 117, 101, 32, 123, 32]⟩ : ByteArray) ++ atS k 1 letB ++ atS u 1 sayB ++ (⟨#[125, 32, 101, 108, 115, 101, 32, 123, 32]⟩ : ByteArray) ++ atS k 2 letB ++ atS u 2 sayB ++ (⟨#[125, 32]⟩ : ByteArray) ++ atS k 3 letB ++ atS u 3 sayB ++ (⟨#[114, 101, 116, 117, 114, 110, 32, 48, 59, 32, 125]⟩ : ByteArray) from rfl); have HD2 := Lib.hid (show twiceT ((k % 2 : Nat) : Int) = (⟨#[118, 97, 114, 32, 103, 59, 32, 102, 117, 110, 99, 32, 109, 97, 105, 110, 40, 41, 32, 123, 32]⟩ : ByteArray) ++ letB ++ (⟨#[105, 102, 32, 116, 114, 117, 101, 32, 123, 32]⟩ : ByteArray) ++ atS ((k % 2 : Nat) : Int) 0 letB ++ (⟨#[125, 32]⟩ : ByteArray) ++ atS ((k % 2 : Nat) : Int) 1 letB ++ (⟨#[125]⟩ : ByteArray) from rfl)
  have HZ1 := Lib.hid (scopes_size k u); have HZ2 := Lib.hid (twice_size ((k % 2 : Nat) : Int)); have HA1 := Lib.hid (and1 k hk)
  clear hg hf1 hf2 ht1 ht2
  go_enter Tryz.func5, Tryz.ntmps5
  go_wp2_with (fail)
  refine (head_any _ HG.out).mono ?_
  rintro e w1 ⟨rfl, hg1⟩
  have HG1 := Lib.hid hg1
  clear hg1
  go_upto_region 8 with (fail)
  rw [hka, hub]
  clear hka hub
  go_wp2_with (fail)
  refine (at_call (k : Int) 0 letB w1).mono ?_
  rintro e wq ⟨rfl, hwq⟩
  rw [hwq]; clear hwq
  have zL0 := atS_size (k : Int) 0 letB (by decide)
  generalize atS (k : Int) 0 letB = L0 at *
  go_wp2_with (fail)
  refine (at_call (u : Int) 0 sayB w1).mono ?_
  rintro e wq ⟨rfl, hwq⟩
  rw [hwq]; clear hwq
  have zS0 := atS_size (u : Int) 0 sayB (by decide)
  generalize atS (u : Int) 0 sayB = S0 at *
  go_wp2_with (fail)
  refine (at_call (k : Int) 1 letB w1).mono ?_
  rintro e wq ⟨rfl, hwq⟩
  rw [hwq]; clear hwq
  have zL1 := atS_size (k : Int) 1 letB (by decide)
  generalize atS (k : Int) 1 letB = L1 at *
  go_wp2_with (fail)
  refine (at_call (u : Int) 1 sayB w1).mono ?_
  rintro e wq ⟨rfl, hwq⟩
  rw [hwq]; clear hwq
  have zS1 := atS_size (u : Int) 1 sayB (by decide)
  generalize atS (u : Int) 1 sayB = S1 at *
  go_wp2_with (fail)
  refine (at_call (k : Int) 2 letB w1).mono ?_
  rintro e wq ⟨rfl, hwq⟩
  rw [hwq]; clear hwq
  have zL2 := atS_size (k : Int) 2 letB (by decide)
  generalize atS (k : Int) 2 letB = L2 at *
  go_wp2_with (fail)
  refine (at_call (u : Int) 2 sayB w1).mono ?_
  rintro e wq ⟨rfl, hwq⟩
  rw [hwq]; clear hwq
  have zS2 := atS_size (u : Int) 2 sayB (by decide)
  generalize atS (u : Int) 2 sayB = S2 at *
  go_wp2_with (fail)
  refine (at_call (k : Int) 3 letB w1).mono ?_
  rintro e wq ⟨rfl, hwq⟩
  rw [hwq]; clear hwq
  have zL3 := atS_size (k : Int) 3 letB (by decide)
  generalize atS (k : Int) 3 letB = L3 at *
  go_wp2_with (fail)
  refine (at_call (u : Int) 3 sayB w1).mono ?_
  rintro e wq ⟨rfl, hwq⟩
  rw [hwq]; clear hwq
  have zS3 := atS_size (u : Int) 3 sayB (by decide)
  generalize atS (u : Int) 3 sayB = S3 at *
  go_wp2_with (fail)
  refine (text_fault _ (by have := HZ1.out; rw [HD1.out] at this; omega) (scopesT k u).data.toList (by rw [HD1.out]) HF1.out _ (HG.out.more HG1.out)).mono ?_
  rintro e w2 ⟨a1, a2, a3, b1, b2, b3, m1, m2, rfl, hg2⟩
  have HG2 := Lib.hid (grown_trans HG1.out hg2)
  clear hg2 HD1 HZ1 HF1 zL0 zL1 zL2 zL3 zS0 zS1 zS2 zS3
  generalize ckTx (scopesT k u).data.toList = x at *
  obtain ⟨x1, x2, x3⟩ := x
  dsimp only at HT1 ⊢
  have hcase : (u = k) ∨ (u ≠ k ∧ k = 0) ∨ (u ≠ k ∧ k ≠ 0) := by omega
  rcases hcase with hc | ⟨hc, hc0⟩ | ⟨hc, hc0⟩
  · have hx : x1 = 0 := by rw [HT1.out]; simp [scOk, hc]
    have q1 : ((u : Int) == (k : Int)) = true := by simp [hc]
    subst hx
    clear hc HT1
    go_wp2_with (fail)
    have hw3 : w2.grownBy (((w2.alloc (.cells #[.slice a1 a2 a3, .slice b1 b2 b3] 25)).alloc (.cells #[.map m1, .map m2] 30)).alloc (.cells #[.int .i64 0, .int .i64 x2, .int .i64 x3] 35)) none := grown_trans (grown_trans (grown_alloc _ _) (grown_alloc _ _)) (grown_alloc _ _)
    have hb3 : (((w2.alloc (.cells #[.slice a1 a2 a3, .slice b1 b2 b3] 25)).alloc (.cells #[.map m1, .map m2] 30)).alloc (.cells #[.int .i64 0, .int .i64 x2, .int .i64 x3] 35)).heap[w2.heap.size + 1 + 1]? = some (.cells #[.int .i64 0, .int .i64 x2, .int .i64 x3] 35 (0, 0)) := alloc_at _ _ _ (by simp)
    generalize (((w2.alloc (.cells #[.slice a1 a2 a3, .slice b1 b2 b3] 25)).alloc (.cells #[.map m1, .map m2] 30)).alloc (.cells #[.int .i64 0, .int .i64 x2, .int .i64 x3] 35)) = w3 at *
    have HG3 := Lib.hid (grown_trans HG2.out hw3); have HB3 := Lib.hid hb3
    clear hw3 hb3
    rw [HA1.out]
    refine (at_call ((k % 2 : Nat) : Int) 0 letB w3).mono ?_
    rintro e wq ⟨rfl, hwq⟩
    rw [hwq]; clear hwq
    have zT0 := atS_size ((k % 2 : Nat) : Int) 0 letB (by decide)
    generalize atS ((k % 2 : Nat) : Int) 0 letB = T0 at *
    go_wp2_with (fail)
    rw [HA1.out]
    refine (at_call ((k % 2 : Nat) : Int) 1 letB w3).mono ?_
    rintro e wq ⟨rfl, hwq⟩
    rw [hwq]; clear hwq
    have zT1 := atS_size ((k % 2 : Nat) : Int) 1 letB (by decide)
    generalize atS ((k % 2 : Nat) : Int) 1 letB = T1 at *
    go_wp2_with (fail)
    refine (text_fault _ (by have := HZ2.out; rw [HD2.out] at this; exact Nat.le_trans this (by decide)) (twiceT ((k % 2 : Nat) : Int)).data.toList (by rw [HD2.out]; rfl) HF2.out _ (HG.out.more HG3.out)).mono ?_
    rintro e w4 ⟨c1, c2, c3, d1, d2, d3, n1, n2, rfl, hg4⟩
    have hb4 := (hg4.block _ (Array.getElem?_eq_some_iff.1 HB3.out).1 (by simp)).trans HB3.out
    have hlt4 := (Array.getElem?_eq_some_iff.1 hb4).1
    have HG4 := Lib.hid (grown_trans HG3.out hg4); have HB4 := Lib.hid hb4
    rw [HT2.out]
    clear hg4 hb4 HD2 HZ2 HF2 HT2 zT0 zT1
    generalize (ckTx (twiceT ((k % 2 : Nat) : Int)).data.toList).2.1 = y2 at *
    generalize (ckTx (twiceT ((k % 2 : Nat) : Int)).data.toList).2.2 = y3 at *
    go_upto_region 13 with (fail)
    have hw5 : w4.grownBy (((w4.alloc (.cells #[.slice c1 c2 c3, .slice d1 d2 d3] 25)).alloc (.cells #[.map n1, .map n2] 30)).alloc (.cells #[.int .i64 20, .int .i64 y2, .int .i64 y3] 35)) none := grown_trans (grown_trans (grown_alloc _ _) (grown_alloc _ _)) (grown_alloc _ _)
    have hb5 : (((w4.alloc (.cells #[.slice c1 c2 c3, .slice d1 d2 d3] 25)).alloc (.cells #[.map n1, .map n2] 30)).alloc (.cells #[.int .i64 20, .int .i64 y2, .int .i64 y3] 35)).heap[w4.heap.size + 1 + 1]? = some (.cells #[.int .i64 20, .int .i64 y2, .int .i64 y3] 35 (0, 0)) := alloc_at _ _ _ (by simp)
    have hb6 := (hw5.block _ hlt4 (by simp)).trans HB4.out
    generalize (((w4.alloc (.cells #[.slice c1 c2 c3, .slice d1 d2 d3] 25)).alloc (.cells #[.map n1, .map n2] 30)).alloc (.cells #[.int .i64 20, .int .i64 y2, .int .i64 y3] 35)) = w5 at *
    have HG5 := Lib.hid (grown_trans HG4.out hw5)
    obtain ⟨⟨r0, r1, r2⟩, _, _, _⟩ := three hb6
    obtain ⟨⟨s0, s1, s2⟩, _, _, _⟩ := three hb5
    clear hw5 hb5 hb6
    go_wp2_with (fail)
    go_ret
    exact ⟨rfl, below_grown HG5.out (Nat.le_refl _)⟩
  · have hx : x1 = 0 := by rw [HT1.out]; simp [scOk, hc0]
    have q1 : ((u : Int) == (k : Int)) = false := by simp; omega
    have q2 : ((k : Int) == 0) = true := by simp; omega
    subst hx
    clear hc hc0 HT1
    go_wp2_with (fail)
    have hw3 : w2.grownBy (((w2.alloc (.cells #[.slice a1 a2 a3, .slice b1 b2 b3] 25)).alloc (.cells #[.map m1, .map m2] 30)).alloc (.cells #[.int .i64 0, .int .i64 x2, .int .i64 x3] 35)) none := grown_trans (grown_trans (grown_alloc _ _) (grown_alloc _ _)) (grown_alloc _ _)
    have hb3 : (((w2.alloc (.cells #[.slice a1 a2 a3, .slice b1 b2 b3] 25)).alloc (.cells #[.map m1, .map m2] 30)).alloc (.cells #[.int .i64 0, .int .i64 x2, .int .i64 x3] 35)).heap[w2.heap.size + 1 + 1]? = some (.cells #[.int .i64 0, .int .i64 x2, .int .i64 x3] 35 (0, 0)) := alloc_at _ _ _ (by simp)
    generalize (((w2.alloc (.cells #[.slice a1 a2 a3, .slice b1 b2 b3] 25)).alloc (.cells #[.map m1, .map m2] 30)).alloc (.cells #[.int .i64 0, .int .i64 x2, .int .i64 x3] 35)) = w3 at *
    have HG3 := Lib.hid (grown_trans HG2.out hw3); have HB3 := Lib.hid hb3
    clear hw3 hb3
    rw [HA1.out]
    refine (at_call ((k % 2 : Nat) : Int) 0 letB w3).mono ?_
    rintro e wq ⟨rfl, hwq⟩
    rw [hwq]; clear hwq
    have zT0 := atS_size ((k % 2 : Nat) : Int) 0 letB (by decide)
    generalize atS ((k % 2 : Nat) : Int) 0 letB = T0 at *
    go_wp2_with (fail)
    rw [HA1.out]
    refine (at_call ((k % 2 : Nat) : Int) 1 letB w3).mono ?_
    rintro e wq ⟨rfl, hwq⟩
    rw [hwq]; clear hwq
    have zT1 := atS_size ((k % 2 : Nat) : Int) 1 letB (by decide)
    generalize atS ((k % 2 : Nat) : Int) 1 letB = T1 at *
    go_wp2_with (fail)
    refine (text_fault _ (by have := HZ2.out; rw [HD2.out] at this; exact Nat.le_trans this (by decide)) (twiceT ((k % 2 : Nat) : Int)).data.toList (by rw [HD2.out]; rfl) HF2.out _ (HG.out.more HG3.out)).mono ?_
    rintro e w4 ⟨c1, c2, c3, d1, d2, d3, n1, n2, rfl, hg4⟩
    have hb4 := (hg4.block _ (Array.getElem?_eq_some_iff.1 HB3.out).1 (by simp)).trans HB3.out
    have hlt4 := (Array.getElem?_eq_some_iff.1 hb4).1
    have HG4 := Lib.hid (grown_trans HG3.out hg4); have HB4 := Lib.hid hb4
    rw [HT2.out]
    clear hg4 hb4 HD2 HZ2 HF2 HT2 zT0 zT1
    generalize (ckTx (twiceT ((k % 2 : Nat) : Int)).data.toList).2.1 = y2 at *
    generalize (ckTx (twiceT ((k % 2 : Nat) : Int)).data.toList).2.2 = y3 at *
    go_upto_region 13 with (fail)
    have hw5 : w4.grownBy (((w4.alloc (.cells #[.slice c1 c2 c3, .slice d1 d2 d3] 25)).alloc (.cells #[.map n1, .map n2] 30)).alloc (.cells #[.int .i64 20, .int .i64 y2, .int .i64 y3] 35)) none := grown_trans (grown_trans (grown_alloc _ _) (grown_alloc _ _)) (grown_alloc _ _)
    have hb5 : (((w4.alloc (.cells #[.slice c1 c2 c3, .slice d1 d2 d3] 25)).alloc (.cells #[.map n1, .map n2] 30)).alloc (.cells #[.int .i64 20, .int .i64 y2, .int .i64 y3] 35)).heap[w4.heap.size + 1 + 1]? = some (.cells #[.int .i64 20, .int .i64 y2, .int .i64 y3] 35 (0, 0)) := alloc_at _ _ _ (by simp)
    have hb6 := (hw5.block _ hlt4 (by simp)).trans HB4.out
    generalize (((w4.alloc (.cells #[.slice c1 c2 c3, .slice d1 d2 d3] 25)).alloc (.cells #[.map n1, .map n2] 30)).alloc (.cells #[.int .i64 20, .int .i64 y2, .int .i64 y3] 35)) = w5 at *
    have HG5 := Lib.hid (grown_trans HG4.out hw5)
    obtain ⟨⟨r0, r1, r2⟩, _, _, _⟩ := three hb6
    obtain ⟨⟨s0, s1, s2⟩, _, _, _⟩ := three hb5
    clear hw5 hb5 hb6
    go_wp2_with (fail)
    go_ret
    exact ⟨rfl, below_grown HG5.out (Nat.le_refl _)⟩
  · have hx : x1 = 21 := by rw [HT1.out]; simp [scOk, hc, hc0]
    have q1 : ((u : Int) == (k : Int)) = false := by simp; omega
    have q2 : ((k : Int) == 0) = false := by simp; omega
    subst hx
    clear hc hc0 HT1
    go_wp2_with (fail)
    have hw3 : w2.grownBy (((w2.alloc (.cells #[.slice a1 a2 a3, .slice b1 b2 b3] 25)).alloc (.cells #[.map m1, .map m2] 30)).alloc (.cells #[.int .i64 21, .int .i64 x2, .int .i64 x3] 35)) none := grown_trans (grown_trans (grown_alloc _ _) (grown_alloc _ _)) (grown_alloc _ _)
    have hb3 : (((w2.alloc (.cells #[.slice a1 a2 a3, .slice b1 b2 b3] 25)).alloc (.cells #[.map m1, .map m2] 30)).alloc (.cells #[.int .i64 21, .int .i64 x2, .int .i64 x3] 35)).heap[w2.heap.size + 1 + 1]? = some (.cells #[.int .i64 21, .int .i64 x2, .int .i64 x3] 35 (0, 0)) := alloc_at _ _ _ (by simp)
    generalize (((w2.alloc (.cells #[.slice a1 a2 a3, .slice b1 b2 b3] 25)).alloc (.cells #[.map m1, .map m2] 30)).alloc (.cells #[.int .i64 21, .int .i64 x2, .int .i64 x3] 35)) = w3 at *
    have HG3 := Lib.hid (grown_trans HG2.out hw3); have HB3 := Lib.hid hb3
    clear hw3 hb3
    rw [HA1.out]
    refine (at_call ((k % 2 : Nat) : Int) 0 letB w3).mono ?_
    rintro e wq ⟨rfl, hwq⟩
    rw [hwq]; clear hwq
    have zT0 := atS_size ((k % 2 : Nat) : Int) 0 letB (by decide)
    generalize atS ((k % 2 : Nat) : Int) 0 letB = T0 at *
    go_wp2_with (fail)
    rw [HA1.out]
    refine (at_call ((k % 2 : Nat) : Int) 1 letB w3).mono ?_
    rintro e wq ⟨rfl, hwq⟩
    rw [hwq]; clear hwq
    have zT1 := atS_size ((k % 2 : Nat) : Int) 1 letB (by decide)
    generalize atS ((k % 2 : Nat) : Int) 1 letB = T1 at *
    go_wp2_with (fail)
    refine (text_fault _ (by have := HZ2.out; rw [HD2.out] at this; exact Nat.le_trans this (by decide)) (twiceT ((k % 2 : Nat) : Int)).data.toList (by rw [HD2.out]; rfl) HF2.out _ (HG.out.more HG3.out)).mono ?_
    rintro e w4 ⟨c1, c2, c3, d1, d2, d3, n1, n2, rfl, hg4⟩
    have hb4 := (hg4.block _ (Array.getElem?_eq_some_iff.1 HB3.out).1 (by simp)).trans HB3.out
    have hlt4 := (Array.getElem?_eq_some_iff.1 hb4).1
    have HG4 := Lib.hid (grown_trans HG3.out hg4); have HB4 := Lib.hid hb4
    rw [HT2.out]
    clear hg4 hb4 HD2 HZ2 HF2 HT2 zT0 zT1
    generalize (ckTx (twiceT ((k % 2 : Nat) : Int)).data.toList).2.1 = y2 at *
    generalize (ckTx (twiceT ((k % 2 : Nat) : Int)).data.toList).2.2 = y3 at *
    go_upto_region 13 with (fail)
    have hw5 : w4.grownBy (((w4.alloc (.cells #[.slice c1 c2 c3, .slice d1 d2 d3] 25)).alloc (.cells #[.map n1, .map n2] 30)).alloc (.cells #[.int .i64 20, .int .i64 y2, .int .i64 y3] 35)) none := grown_trans (grown_trans (grown_alloc _ _) (grown_alloc _ _)) (grown_alloc _ _)
    have hb5 : (((w4.alloc (.cells #[.slice c1 c2 c3, .slice d1 d2 d3] 25)).alloc (.cells #[.map n1, .map n2] 30)).alloc (.cells #[.int .i64 20, .int .i64 y2, .int .i64 y3] 35)).heap[w4.heap.size + 1 + 1]? = some (.cells #[.int .i64 20, .int .i64 y2, .int .i64 y3] 35 (0, 0)) := alloc_at _ _ _ (by simp)
    have hb6 := (hw5.block _ hlt4 (by simp)).trans HB4.out
    generalize (((w4.alloc (.cells #[.slice c1 c2 c3, .slice d1 d2 d3] 25)).alloc (.cells #[.map n1, .map n2] 30)).alloc (.cells #[.int .i64 20, .int .i64 y2, .int .i64 y3] 35)) = w5 at *
    have HG5 := Lib.hid (grown_trans HG4.out hw5)
    obtain ⟨⟨r0, r1, r2⟩, _, _, _⟩ := three hb6
    obtain ⟨⟨s0, s1, s2⟩, _, _, _⟩ := three hb5
    clear hw5 hb5 hb6
    go_wp2_with (fail)
    go_ret
    exact ⟨rfl, below_grown HG5.out (Nat.le_refl _)⟩
theorem all (a : Int) (ha : InI64 a) (b : Int) (hb : InI64 b) (w : World) (hg : Ground w) :
    Calls Tryz.prog 5 #[.int .i64 a, .int .i64 b] w fun e w' => e = .returned (.bool true) ∧ Below w.heap.size w w' :=
  scopes_core a b _ _ (by have := Int.emod_lt_of_pos (a % 18446744073709551616) (show (0 : Int) < (4 : Nat) by decide); omega) (by have := Int.emod_lt_of_pos (b % 18446744073709551616) (show (0 : Int) < (4 : Nat) by decide); omega) (rem_at a 4 (by decide) (by decide)) (rem_at b 4 (by decide) (by decide)) w hg


theorem door_met (os : Os) (args : Array Value) : laidMetH Tryz.prog [("palings/ast.signs", Rows.laid_palings_ast_signs)] ((World.doorLaid Tryz.prog 4000 os).forCall (fun _ _ => 0) ⟨#[], args, []⟩).memory :=
  laidMetH_of_parts3 (fuel := 8) (laidMet_of_run' 8 (by kernel_rfl) (by kernel_rfl)) (by kernel_rfl) (by kernel_rfl)
theorem own : ownKnob Tryz.prog.godebug = none := by kernel_rfl

set_option maxHeartbeats 2000000 in
set_option maxRecDepth 100000 in
theorem lifted (os : Os) (started : os.Started) (H : Type) (enc : TypeId × Value → H) :
    ReturnsInHanded {} Tryz.checked os 5 .any (fun w args => (Rows.checkScopesSpec.pre enc Tryz.prog Tryz.f5 [] false w args ∧ laidMetH Tryz.prog [("palings/ast.signs", Rows.laid_palings_ast_signs)] w) ∧ sizedMet enc Tryz.prog Tryz.f5 (OpenSpec.ofChange Rows.checkScopesSpec) false w args)
      (Rows.checkScopesSpec.post enc Tryz.prog Tryz.f5 false true false false) := by
  refine returnsInHanded_of_change_and (C := Tryz.checked) (X := fun w _ => laidMetH Tryz.prog [("palings/ast.signs", Rows.laid_palings_ast_signs)] w) (fun _ _ _ hh h => h.of_heap hh) own started (by kernel_rfl) Tryz.func5
    (ChangeSpec.witness_shaped (enc := enc) (C := Tryz.checked) (os := os) (X := fun w _ => laidMetH Tryz.prog [("palings/ast.signs", Rows.laid_palings_ast_signs)] w) false (World.doorLaid Tryz.prog 4000 os) #[.int .i64 0, .int .i64 0] 8 rfl (World.shaped_of_RefB (by kernel_rfl) (by kernel_rfl)) (by kernel_rfl) (by kernel_rfl) (by kernel_rfl) (door_met os _)) ?_
  intro W base args ds gs before hval0 hW _ _ hL _
  have hval : ∀ (j : Nat) t v, Tryz.f5.params[j]? = some t → args[j]? = some v → Value.okWide Tryz.prog W .any base t v := hval0
  have hW' := hW
  obtain ⟨p, q, hA0, hV, rfl, hfz, hnd⟩ := hW
  have hA : DataW.TrodAll enc Tryz.prog W 0 (fun _ => true) true Tryz.f5.params.toList args.toList ds p := hA0
  rw [Tryz.params5] at hA hval
  obtain ⟨v0, vs0, d0, ds0, p0, q0, hargs, rfl, rfl, h0, r0⟩ := trodAll_cons hA
  obtain ⟨v1, vs1, d1, ds1, p1, q1, rfl, rfl, rfl, h1, r1⟩ := trodAll_cons r0
  obtain ⟨rfl, rfl, rfl⟩ := trodAll_nil r1
  obtain rfl : args = #[v0, v1] := by cases args; simp_all
  obtain ⟨rfl, rfl⟩ := trodVars_none hV
  obtain ⟨a0, rfl, rfl, rfl, w0⟩ := open_int Tryz.underlying3 (hval 0 3 v0 rfl rfl) h0
  obtain ⟨a1, rfl, rfl, rfl, w1⟩ := open_int Tryz.underlying3 (hval 1 3 v1 rfl rfl) h1
  clear hA0 hval0
  simp only [List.append_nil] at hW'
  refine (all a0 (bounds_i64 w0) a1 (bounds_i64 w1) W (ground_of (by kernel_rfl) (by simp) hL)).mono fun e W' ⟨he, hg⟩ => ?_
  subst he
  exact ⟨_, rfl, post_new hW' (fun _ _ _ => (trodAll_cons_mk (shut_bool Tryz.underlying4 _) trodAll_mk0)) (fun sp => (trodAll_cons_mk (shut_int Tryz.underlying3 w0) (trodAll_cons_mk (shut_int Tryz.underlying3 w1) trodAll_mk0))) (fun _ => rfl) hg (ok_one (by kernel_rfl) rfl (okWide_bool_mk Tryz.underlying4 _))⟩

theorem row_holds : Rows.CheckScopesSaid :=
  OpenClaim.holds_of_wide 5 Tryz.f5 rfl rfl rfl rfl rfl rfl rfl ⟨rfl, rfl, rfl, rfl, rfl⟩ rfl rfl rfl rfl rfl (by kernel_rfl) Tryz.func5 (by kernel_rfl)
    (of_decide_eq_true (by kernel_rfl)) (by unfold Func.isWrapper; first | (rw [if_pos (by decide +kernel)]; kernel_rfl) | (rw [if_neg (by decide +kernel)]; exact ⟨rfl, rfl⟩))
    (fun os started H enc _ => lifted os started H enc)

/-- THE TIED CARD. -/
theorem proved : Rows.CheckScopesCardSaid :=
  Claim7.holds_tied_plain_at .later [] [.data] true (true, "c943f872ca2d9f9f81c620679e9a8bbe22fc0b1696667d16fa7e21e845c9e98a") false
    row_holds (fun _ h => by cases h) (by kernel_rfl) (fun _ h => by cases h) checkScopes_row_tie rfl ⟨rfl, rfl⟩ (by kernel_rfl) rfl
    (fun f fn hf hfn => by
      obtain rfl : f = 5 := Option.some.inj ((show Tryz.prog.funcNamed "palings/palingslaw05.CheckScopes" = some 5 by kernel_rfl).symm.trans hf) |>.symm
      obtain rfl : fn = Tryz.f5 := (Option.some.inj (Tryz.func5.symm.trans hfn)).symm
      exact ⟨by kernel_rfl, fun j t ht => by
        rw [Tryz.params5] at ht
        have hm : t ∈ [3, 3] := by simpa using Array.mem_of_getElem? ht
        have hall : ([3, 3].all fun u => !Tryz.prog.wantsStandIn u) = true := by kernel_rfl
        exact (show Tryz.prog.wantsStandIn t = false by simpa using List.all_eq_true.1 hall t hm)⟩)
    (by kernel_rfl)
#print axioms proved
end Go.Proofs.YtffgioifjdpajaaGreatDoor.checkScopes
