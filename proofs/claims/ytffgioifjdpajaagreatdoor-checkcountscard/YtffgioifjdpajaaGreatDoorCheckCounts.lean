/-
  CheckCounts holds for all its inputs: a function is called with as many words as it has parameters, and no others. Conditions: the tables of the package start as the program's text lays them (the tied card).
-/
import Derived.Test.YtffgioifjdpajaaGreatDoorTie
import Derived.Test.YtffgioifjdpajaaGreatDoorCards
import Derived.Test.YtffgioifjdpajaaGreatDoorChkU
import Derived.Test.YtffgioifjdpajaaGreatDoorMask
import Derived.Test.YtffgioifjdpajaaGreatDoorLd
import Derived.ProofKit
import Derived.LaidMore
import Derived.OpenShut
import Derived.ShutString
import Derived.SliceStrings
import Derived.Stop.Joined
import Derived.SevenTiedAt
namespace Go.Proofs.YtffgioifjdpajaaGreatDoor.checkCounts
open Go.ChangeShapes Go.WideShapes Go.ChangeAt Go.WideMaps Go.WideElems Go.RowKit
open Go.ChangeMaps (open_string shut_string)
set_option linter.unusedVariables false

theorem conv_one (c : UInt8) (w : World) : (convert 63 9 (.slice (some ⟨w.heap.size, 0, none⟩) 1 1)).run Tryz.prog (w.alloc (.cells #[.int .u8 (c.toNat : Int)] 5)) = .ok (.string ⟨#[c]⟩) (w.alloc (.cells #[.int .u8 (c.toNat : Int)] 5)) := by
  have h : (⟨#[c]⟩ : ByteArray) = strOfNums [(c.toNat : Int)] := by simp [strOfNums]
  rw [h]
  refine run_convert_bytes_arg (P := Tryz.prog) _ 63 5 Tryz.underlying63 Tryz.underlying5 w.heap.size 0 1 1 [(c.toNat : Int)] rfl (fun i hi => ?_) 9 Tryz.underlying9
  obtain rfl : i = 0 := by omega
  simp
/-- A list of names, or of ones. -/
def lsX (names : Bool) : Nat → List UInt8
  | 0 => []
  | n + 1 => lsX names n ++ (if n = 0 then [] else [44, 32]) ++ (if names then [112, 97 + UInt8.ofNat n] else [49])
theorem lsX_len (names : Bool) : ∀ n, n ≤ 7 → (lsX names n).length ≤ 60 := by
  intro n hn
  have : n = 0 ∨ n = 1 ∨ n = 2 ∨ n = 3 ∨ n = 4 ∨ n = 5 ∨ n = 6 ∨ n = 7 := by omega
  cases names <;> rcases this with rfl | rfl | rfl | rfl | rfl | rfl | rfl | rfl <;> decide
set_option maxHeartbeats 4000000 in
set_option maxRecDepth 100000 in
theorem list_call (k : Nat) (hk : k ≤ 7) (names : Bool) (w : World) : Calls Tryz.prog 17 #[.int .i64 k, .bool names] w fun e w' => e = .returned (.string ⟨(lsX names k).toArray⟩) ∧ w.grownBy w' none := by
  have HLEN := Lib.hid (lsX_len names)
  go_enter Tryz.func17, Tryz.ntmps17
  go_upto_region 3 with (fail)
  go_loopw [5, 6] (fun s i wr => ∃ j : Nat, j ≤ k ∧ i = .int .i64 j ∧ s = .string ⟨(lsX names j).toArray⟩ ∧ w.grownBy wr none) (fun _ i _ => k - (intOf i).toNat)
  case atStart => exact ⟨0, Nat.zero_le _, rfl, rfl, grown_refl _⟩
  case round =>
    obtain ⟨j, hj, rfl, rfl, hgr⟩ := hrel
    have HGR := Lib.hid hgr
    clear hgr
    by_cases hjl : j < k
    · have hs : (⟨(lsX names j).toArray⟩ : ByteArray).size ≤ 60 := by have := HLEN.out j (by omega); simpa [ByteArray.size] using this
      have hj7 : j = 0 ∨ j = 1 ∨ j = 2 ∨ j = 3 ∨ j = 4 ∨ j = 5 ∨ j = 6 := by omega
      cases names
      · rcases hj7 with rfl | rfl | rfl | rfl | rfl | rfl | rfl
        · have HS := Lib.hid (show (⟨(lsX false 1).toArray⟩ : ByteArray) = ⟨(lsX false 0).toArray⟩ ++ ⟨#[49]⟩ from rfl)
          generalize (⟨(lsX false 0).toArray⟩ : ByteArray) = S at *
          go_wp2_with (fail)
          go_roundw
          case rel => exact ⟨1, by omega, rfl, by rw [HS.out], HGR.out⟩
          case measure => simp [intOf]; omega
        · have HS := Lib.hid (show (⟨(lsX false 2).toArray⟩ : ByteArray) = ⟨(lsX false 1).toArray⟩ ++ ⟨#[44, 32]⟩ ++ ⟨#[49]⟩ from rfl)
          generalize (⟨(lsX false 1).toArray⟩ : ByteArray) = S at *
          go_wp2_with (fail)
          go_roundw
          case rel => exact ⟨2, by omega, rfl, by rw [HS.out], HGR.out⟩
          case measure => simp [intOf]; omega
        · have HS := Lib.hid (show (⟨(lsX false 3).toArray⟩ : ByteArray) = ⟨(lsX false 2).toArray⟩ ++ ⟨#[44, 32]⟩ ++ ⟨#[49]⟩ from rfl)
          generalize (⟨(lsX false 2).toArray⟩ : ByteArray) = S at *
          go_wp2_with (fail)
          go_roundw
          case rel => exact ⟨3, by omega, rfl, by rw [HS.out], HGR.out⟩
          case measure => simp [intOf]; omega
        · have HS := Lib.hid (show (⟨(lsX false 4).toArray⟩ : ByteArray) = ⟨(lsX false 3).toArray⟩ ++ ⟨#[44, 32]⟩ ++ ⟨#[49]⟩ from rfl)
          generalize (⟨(lsX false 3).toArray⟩ : ByteArray) = S at *
          go_wp2_with (fail)
          go_roundw
          case rel => exact ⟨4, by omega, rfl, by rw [HS.out], HGR.out⟩
          case measure => simp [intOf]; omega
        · have HS := Lib.hid (show (⟨(lsX false 5).toArray⟩ : ByteArray) = ⟨(lsX false 4).toArray⟩ ++ ⟨#[44, 32]⟩ ++ ⟨#[49]⟩ from rfl)
          generalize (⟨(lsX false 4).toArray⟩ : ByteArray) = S at *
          go_wp2_with (fail)
          go_roundw
          case rel => exact ⟨5, by omega, rfl, by rw [HS.out], HGR.out⟩
          case measure => simp [intOf]; omega
        · have HS := Lib.hid (show (⟨(lsX false 6).toArray⟩ : ByteArray) = ⟨(lsX false 5).toArray⟩ ++ ⟨#[44, 32]⟩ ++ ⟨#[49]⟩ from rfl)
          generalize (⟨(lsX false 5).toArray⟩ : ByteArray) = S at *
          go_wp2_with (fail)
          go_roundw
          case rel => exact ⟨6, by omega, rfl, by rw [HS.out], HGR.out⟩
          case measure => simp [intOf]; omega
        · have HS := Lib.hid (show (⟨(lsX false 7).toArray⟩ : ByteArray) = ⟨(lsX false 6).toArray⟩ ++ ⟨#[44, 32]⟩ ++ ⟨#[49]⟩ from rfl)
          generalize (⟨(lsX false 6).toArray⟩ : ByteArray) = S at *
          go_wp2_with (fail)
          go_roundw
          case rel => exact ⟨7, by omega, rfl, by rw [HS.out], HGR.out⟩
          case measure => simp [intOf]; omega
      · rcases hj7 with rfl | rfl | rfl | rfl | rfl | rfl | rfl
        · have HS := Lib.hid (show (⟨(lsX true 1).toArray⟩ : ByteArray) = ⟨(lsX true 0).toArray⟩ ++ ⟨#[112]⟩ ++ ⟨#[97]⟩ from rfl)
          generalize (⟨(lsX true 0).toArray⟩ : ByteArray) = S at *
          have hcv : (convert 63 9 (.slice (some ⟨wr.heap.size, 0, none⟩) 1 1)).run Tryz.prog (wr.alloc (.cells #[.int .u8 97] 5)) = .ok (.string ⟨#[97]⟩) (wr.alloc (.cells #[.int .u8 97] 5)) := conv_one 97 wr
          go_wp2_with (fail)
          go_roundw
          case rel => exact ⟨1, by omega, rfl, by rw [HS.out], grown_trans HGR.out (grown_alloc _ _)⟩
          case measure => simp [intOf]; omega
        · have HS := Lib.hid (show (⟨(lsX true 2).toArray⟩ : ByteArray) = ⟨(lsX true 1).toArray⟩ ++ ⟨#[44, 32]⟩ ++ ⟨#[112]⟩ ++ ⟨#[98]⟩ from rfl)
          generalize (⟨(lsX true 1).toArray⟩ : ByteArray) = S at *
          have hcv : (convert 63 9 (.slice (some ⟨wr.heap.size, 0, none⟩) 1 1)).run Tryz.prog (wr.alloc (.cells #[.int .u8 98] 5)) = .ok (.string ⟨#[98]⟩) (wr.alloc (.cells #[.int .u8 98] 5)) := conv_one 98 wr
          go_wp2_with (fail)
          go_roundw
          case rel => exact ⟨2, by omega, rfl, by rw [HS.out], grown_trans HGR.out (grown_alloc _ _)⟩
          case measure => simp [intOf]; omega
        · have HS := Lib.hid (show (⟨(lsX true 3).toArray⟩ : ByteArray) = ⟨(lsX true 2).toArray⟩ ++ ⟨#[44, 32]⟩ ++ ⟨#[112]⟩ ++ ⟨#[99]⟩ from rfl)
          generalize (⟨(lsX true 2).toArray⟩ : ByteArray) = S at *
          have hcv : (convert 63 9 (.slice (some ⟨wr.heap.size, 0, none⟩) 1 1)).run Tryz.prog (wr.alloc (.cells #[.int .u8 99] 5)) = .ok (.string ⟨#[99]⟩) (wr.alloc (.cells #[.int .u8 99] 5)) := conv_one 99 wr
          go_wp2_with (fail)
          go_roundw
          case rel => exact ⟨3, by omega, rfl, by rw [HS.out], grown_trans HGR.out (grown_alloc _ _)⟩
          case measure => simp [intOf]; omega
        · have HS := Lib.hid (show (⟨(lsX true 4).toArray⟩ : ByteArray) = ⟨(lsX true 3).toArray⟩ ++ ⟨#[44, 32]⟩ ++ ⟨#[112]⟩ ++ ⟨#[100]⟩ from rfl)
          generalize (⟨(lsX true 3).toArray⟩ : ByteArray) = S at *
          have hcv : (convert 63 9 (.slice (some ⟨wr.heap.size, 0, none⟩) 1 1)).run Tryz.prog (wr.alloc (.cells #[.int .u8 100] 5)) = .ok (.string ⟨#[100]⟩) (wr.alloc (.cells #[.int .u8 100] 5)) := conv_one 100 wr
          go_wp2_with (fail)
          go_roundw
          case rel => exact ⟨4, by omega, rfl, by rw [HS.out], grown_trans HGR.out (grown_alloc _ _)⟩
          case measure => simp [intOf]; omega
        · have HS := Lib.hid (show (⟨(lsX true 5).toArray⟩ : ByteArray) = ⟨(lsX true 4).toArray⟩ ++ ⟨#[44, 32]⟩ ++ ⟨#[112]⟩ ++ ⟨#[101]⟩ from rfl)
          generalize (⟨(lsX true 4).toArray⟩ : ByteArray) = S at *
          have hcv : (convert 63 9 (.slice (some ⟨wr.heap.size, 0, none⟩) 1 1)).run Tryz.prog (wr.alloc (.cells #[.int .u8 101] 5)) = .ok (.string ⟨#[101]⟩) (wr.alloc (.cells #[.int .u8 101] 5)) := conv_one 101 wr
          go_wp2_with (fail)
          go_roundw
          case rel => exact ⟨5, by omega, rfl, by rw [HS.out], grown_trans HGR.out (grown_alloc _ _)⟩
          case measure => simp [intOf]; omega
        · have HS := Lib.hid (show (⟨(lsX true 6).toArray⟩ : ByteArray) = ⟨(lsX true 5).toArray⟩ ++ ⟨#[44, 32]⟩ ++ ⟨#[112]⟩ ++ ⟨#[102]⟩ from rfl)
          generalize (⟨(lsX true 5).toArray⟩ : ByteArray) = S at *
          have hcv : (convert 63 9 (.slice (some ⟨wr.heap.size, 0, none⟩) 1 1)).run Tryz.prog (wr.alloc (.cells #[.int .u8 102] 5)) = .ok (.string ⟨#[102]⟩) (wr.alloc (.cells #[.int .u8 102] 5)) := conv_one 102 wr
          go_wp2_with (fail)
          go_roundw
          case rel => exact ⟨6, by omega, rfl, by rw [HS.out], grown_trans HGR.out (grown_alloc _ _)⟩
          case measure => simp [intOf]; omega
        · have HS := Lib.hid (show (⟨(lsX true 7).toArray⟩ : ByteArray) = ⟨(lsX true 6).toArray⟩ ++ ⟨#[44, 32]⟩ ++ ⟨#[112]⟩ ++ ⟨#[103]⟩ from rfl)
          generalize (⟨(lsX true 6).toArray⟩ : ByteArray) = S at *
          have hcv : (convert 63 9 (.slice (some ⟨wr.heap.size, 0, none⟩) 1 1)).run Tryz.prog (wr.alloc (.cells #[.int .u8 103] 5)) = .ok (.string ⟨#[103]⟩) (wr.alloc (.cells #[.int .u8 103] 5)) := conv_one 103 wr
          go_wp2_with (fail)
          go_roundw
          case rel => exact ⟨7, by omega, rfl, by rw [HS.out], grown_trans HGR.out (grown_alloc _ _)⟩
          case measure => simp [intOf]; omega
    · obtain rfl : j = k := by omega
      clear hjl
      go_wp2_with (fail)
      go_ret
      exact ⟨rfl, HGR.out⟩
def countT (n m : Nat) : ByteArray := (⟨#[102, 117, 110, 99, 32, 102, 40]⟩ : ByteArray) ++ ⟨(lsX true n).toArray⟩ ++ (⟨#[41, 32, 123, 32, 125, 32, 102, 117, 110, 99, 32, 109, 97, 105, 110, 40, 41, 32, 123, 32, 114, 101, 116, 117, 114, 110, 32, 102, 40]⟩ : ByteArray) ++ ⟨(lsX false m).toArray⟩ ++ (⟨#[41, 59, 32, 125]⟩ : ByteArray)
def countAll : Bool := (List.range 8).all fun n => (List.range 8).all fun m => prFit (parseL (countT n m).data.toList).1 && (if 6 < n then (ckTx (countT n m).data.toList).1 == 3 else if n = m then ckTx (countT n m).data.toList == (0, 0, 0) else (ckTx (countT n m).data.toList).1 == 23)
theorem countAll_true : countAll = true := by kernel_rfl
theorem count_at {n m : Nat} (hn : n < 8) (hm : m < 8) : prFit (parseL (countT n m).data.toList).1 = true ∧ (if 6 < n then (ckTx (countT n m).data.toList).1 == 3 else if n = m then ckTx (countT n m).data.toList == (0, 0, 0) else (ckTx (countT n m).data.toList).1 == 23) = true := by
  have q := List.all_eq_true.1 (List.all_eq_true.1 countAll_true n (List.mem_range.2 hn)) m (List.mem_range.2 hm)
  rw [Bool.and_eq_true] at q
  exact q
set_option maxHeartbeats 4000000 in
set_option maxRecDepth 100000 in
theorem counts_core (a b : Int) (n m : Nat) (hn : n < 8) (hm : m < 8) (hna : bits .and .i64 a 7 = (n : Int)) (hmb : bits .and .i64 b 7 = (m : Int)) (w : World) (hg : Ground w) :
    Calls Tryz.prog 7 #[.int .i64 a, .int .i64 b] w fun e w' => e = .returned (.bool true) ∧ Below w.heap.size w w' := by
  obtain ⟨hf, ht⟩ := count_at hn hm
  have HG := Lib.hid hg; have HF := Lib.hid hf; have HT := Lib.hid ht
  have HD := Lib.hid (show countT n m = (⟨#[102, 117, 110, 99, 32, 102, 40]⟩ : ByteArray) ++ ⟨(lsX true n).toArray⟩ ++ (⟨#[41, 32, 123, 32, 125, 32, 102, 117, 110, 99, 32, 109, 97, 105, 110, 40, 41, 32, 123, 32, 114, 101, 116, 117, 114, 110, 32, 102, 40]⟩ : ByteArray) ++ ⟨(lsX false m).toArray⟩ ++ (⟨#[41, 59, 32, 125]⟩ : ByteArray) from rfl)
  have HNA := Lib.hid hna; have HMB := Lib.hid hmb
  clear hg hf ht hna hmb
  go_enter Tryz.func7, Tryz.ntmps7
  go_wp2_with (fail)
  refine (head_any _ HG.out).mono ?_
  rintro e w1 ⟨rfl, hg1⟩
  have HG1 := Lib.hid hg1
  clear hg1
  go_upto_region 6 with (fail)
  rw [HNA.out, HMB.out]
  go_wp2_with (fail)
  refine (list_call n (by omega) true w1).mono ?_
  rintro e w2 ⟨rfl, hg2⟩
  have z1 : (⟨(lsX true n).toArray⟩ : ByteArray).size ≤ 60 := by have := lsX_len true n (by omega); simpa [ByteArray.size] using this
  generalize (⟨(lsX true n).toArray⟩ : ByteArray) = S at *
  have HG2 := Lib.hid (grown_trans HG1.out hg2)
  clear hg2
  go_wp2_with (fail)
  refine (list_call m (by omega) false w2).mono ?_
  rintro e w3 ⟨rfl, hg3⟩
  have z2 : (⟨(lsX false m).toArray⟩ : ByteArray).size ≤ 60 := by have := lsX_len false m (by omega); simpa [ByteArray.size] using this
  generalize (⟨(lsX false m).toArray⟩ : ByteArray) = T at *
  have HG3 := Lib.hid (grown_trans HG2.out hg3)
  clear hg3
  go_wp2_with (fail)
  refine (text_fault _ (by
    simp only [ByteArray.size_append]
    have e0 : (⟨#[102, 117, 110, 99, 32, 102, 40]⟩ : ByteArray).size = 7 := rfl
    have e1 : (⟨#[41, 32, 123, 32, 125, 32, 102, 117, 110, 99, 32, 109, 97, 105, 110, 40, 41, 32, 123, 32, 114, 101, 116, 117, 114, 110, 32, 102, 40]⟩ : ByteArray).size = 29 := rfl
    have e2 : (⟨#[41, 59, 32, 125]⟩ : ByteArray).size = 4 := rfl
    omega) (countT n m).data.toList (by rw [HD.out]) HF.out _ (HG.out.more HG3.out)).mono ?_
  rintro e w4 ⟨c1, c2, c3, d1, d2, d3, n1, n2, rfl, hg4⟩
  have HG4 := Lib.hid (grown_trans HG3.out hg4)
  clear hg4 HD HF z1 z2
  generalize ckTx (countT n m).data.toList = x at *
  obtain ⟨x1, x2, x3⟩ := x
  dsimp only at HT ⊢
  have hcase : 6 < n ∨ (n ≤ 6 ∧ n = m) ∨ (n ≤ 6 ∧ n ≠ m) := by omega
  rcases hcase with hc | ⟨hc, hc0⟩ | ⟨hc, hc0⟩
  · have hx : x1 = 3 := by have := HT.out; rw [if_pos hc] at this; simpa using this
    subst hx
    clear HT
    go_upto_region 7 with (fail)
    have hw5 : w4.grownBy (((w4.alloc (.cells #[.slice c1 c2 c3, .slice d1 d2 d3] 25)).alloc (.cells #[.map n1, .map n2] 30)).alloc (.cells #[.int .i64 3, .int .i64 x2, .int .i64 x3] 35)) none := grown_trans (grown_trans (grown_alloc _ _) (grown_alloc _ _)) (grown_alloc _ _)
    have hb5 : (((w4.alloc (.cells #[.slice c1 c2 c3, .slice d1 d2 d3] 25)).alloc (.cells #[.map n1, .map n2] 30)).alloc (.cells #[.int .i64 3, .int .i64 x2, .int .i64 x3] 35)).heap[w4.heap.size + 1 + 1]? = some (.cells #[.int .i64 3, .int .i64 x2, .int .i64 x3] 35 (0, 0)) := alloc_at _ _ _ (by simp)
    generalize (((w4.alloc (.cells #[.slice c1 c2 c3, .slice d1 d2 d3] 25)).alloc (.cells #[.map n1, .map n2] 30)).alloc (.cells #[.int .i64 3, .int .i64 x2, .int .i64 x3] 35)) = w5 at *
    have HG5 := Lib.hid (grown_trans HG4.out hw5)
    obtain ⟨⟨s0, s1, s2⟩, _, _, _⟩ := three hb5
    clear hw5 hb5
    go_wp2_with (fail)
    go_ret
    exact ⟨rfl, below_grown HG5.out (Nat.le_refl _)⟩
  · have hx : x1 = 0 ∧ x2 = 0 ∧ x3 = 0 := by have := HT.out; rw [if_neg (by omega), if_pos hc0] at this; simpa using this
    obtain ⟨rfl, rfl, rfl⟩ := hx
    subst hc0
    clear HT
    go_upto_region 7 with (fail)
    have hw5 : w4.grownBy (((w4.alloc (.cells #[.slice c1 c2 c3, .slice d1 d2 d3] 25)).alloc (.cells #[.map n1, .map n2] 30)).alloc (.cells #[.int .i64 0, .int .i64 0, .int .i64 0] 35)) none := grown_trans (grown_trans (grown_alloc _ _) (grown_alloc _ _)) (grown_alloc _ _)
    have hb5 : (((w4.alloc (.cells #[.slice c1 c2 c3, .slice d1 d2 d3] 25)).alloc (.cells #[.map n1, .map n2] 30)).alloc (.cells #[.int .i64 0, .int .i64 0, .int .i64 0] 35)).heap[w4.heap.size + 1 + 1]? = some (.cells #[.int .i64 0, .int .i64 0, .int .i64 0] 35 (0, 0)) := alloc_at _ _ _ (by simp)
    generalize (((w4.alloc (.cells #[.slice c1 c2 c3, .slice d1 d2 d3] 25)).alloc (.cells #[.map n1, .map n2] 30)).alloc (.cells #[.int .i64 0, .int .i64 0, .int .i64 0] 35)) = w5 at *
    have HG5 := Lib.hid (grown_trans HG4.out hw5)
    obtain ⟨⟨s0, s1, s2⟩, _, _, _⟩ := three hb5
    clear hw5 hb5
    go_wp2_with (fail)
    go_ret
    exact ⟨rfl, below_grown HG5.out (Nat.le_refl _)⟩
  · have hx : x1 = 23 := by have := HT.out; rw [if_neg (by omega), if_neg hc0] at this; simpa using this
    have q1 : ((n : Int) != (m : Int)) = true := by simp; omega
    subst hx
    clear HT hc0
    go_upto_region 7 with (fail)
    have hw5 : w4.grownBy (((w4.alloc (.cells #[.slice c1 c2 c3, .slice d1 d2 d3] 25)).alloc (.cells #[.map n1, .map n2] 30)).alloc (.cells #[.int .i64 23, .int .i64 x2, .int .i64 x3] 35)) none := grown_trans (grown_trans (grown_alloc _ _) (grown_alloc _ _)) (grown_alloc _ _)
    have hb5 : (((w4.alloc (.cells #[.slice c1 c2 c3, .slice d1 d2 d3] 25)).alloc (.cells #[.map n1, .map n2] 30)).alloc (.cells #[.int .i64 23, .int .i64 x2, .int .i64 x3] 35)).heap[w4.heap.size + 1 + 1]? = some (.cells #[.int .i64 23, .int .i64 x2, .int .i64 x3] 35 (0, 0)) := alloc_at _ _ _ (by simp)
    generalize (((w4.alloc (.cells #[.slice c1 c2 c3, .slice d1 d2 d3] 25)).alloc (.cells #[.map n1, .map n2] 30)).alloc (.cells #[.int .i64 23, .int .i64 x2, .int .i64 x3] 35)) = w5 at *
    have HG5 := Lib.hid (grown_trans HG4.out hw5)
    obtain ⟨⟨s0, s1, s2⟩, _, _, _⟩ := three hb5
    clear hw5 hb5
    go_wp2_with (fail)
    go_ret
    exact ⟨rfl, below_grown HG5.out (Nat.le_refl _)⟩
theorem all (a : Int) (ha : InI64 a) (b : Int) (hb : InI64 b) (w : World) (hg : Ground w) :
    Calls Tryz.prog 7 #[.int .i64 a, .int .i64 b] w fun e w' => e = .returned (.bool true) ∧ Below w.heap.size w w' :=
  counts_core a b _ _ (by omega) (by omega) (and7 a) (and7 b) w hg


theorem door_met (os : Os) (args : Array Value) : laidMetH Tryz.prog [("palings/ast.signs", Rows.laid_palings_ast_signs)] ((World.doorLaid Tryz.prog 4000 os).forCall (fun _ _ => 0) ⟨#[], args, []⟩).memory :=
  laidMetH_of_parts3 (fuel := 8) (laidMet_of_run' 8 (by kernel_rfl) (by kernel_rfl)) (by kernel_rfl) (by kernel_rfl)
theorem own : ownKnob Tryz.prog.godebug = none := by kernel_rfl

set_option maxHeartbeats 2000000 in
set_option maxRecDepth 100000 in
theorem lifted (os : Os) (started : os.Started) (H : Type) (enc : TypeId × Value → H) :
    ReturnsInHanded {} Tryz.checked os 7 .any (fun w args => (Rows.checkCountsSpec.pre enc Tryz.prog Tryz.f7 [] false w args ∧ laidMetH Tryz.prog [("palings/ast.signs", Rows.laid_palings_ast_signs)] w) ∧ sizedMet enc Tryz.prog Tryz.f7 (OpenSpec.ofChange Rows.checkCountsSpec) false w args)
      (Rows.checkCountsSpec.post enc Tryz.prog Tryz.f7 false true false false) := by
  refine returnsInHanded_of_change_and (C := Tryz.checked) (X := fun w _ => laidMetH Tryz.prog [("palings/ast.signs", Rows.laid_palings_ast_signs)] w) (fun _ _ _ hh h => h.of_heap hh) own started (by kernel_rfl) Tryz.func7
    (ChangeSpec.witness_shaped (enc := enc) (C := Tryz.checked) (os := os) (X := fun w _ => laidMetH Tryz.prog [("palings/ast.signs", Rows.laid_palings_ast_signs)] w) false (World.doorLaid Tryz.prog 4000 os) #[.int .i64 0, .int .i64 0] 8 rfl (World.shaped_of_RefB (by kernel_rfl) (by kernel_rfl)) (by kernel_rfl) (by kernel_rfl) (by kernel_rfl) (door_met os _)) ?_
  intro W base args ds gs before hval0 hW _ _ hL _
  have hval : ∀ (j : Nat) t v, Tryz.f7.params[j]? = some t → args[j]? = some v → Value.okWide Tryz.prog W .any base t v := hval0
  have hW' := hW
  obtain ⟨p, q, hA0, hV, rfl, hfz, hnd⟩ := hW
  have hA : DataW.TrodAll enc Tryz.prog W 0 (fun _ => true) true Tryz.f7.params.toList args.toList ds p := hA0
  rw [Tryz.params7] at hA hval
  obtain ⟨v0, vs0, d0, ds0, p0, q0, hargs, rfl, rfl, h0, r0⟩ := trodAll_cons hA
  obtain ⟨v1, vs1, d1, ds1, p1, q1, rfl, rfl, rfl, h1, r1⟩ := trodAll_cons r0
  obtain ⟨rfl, rfl, rfl⟩ := trodAll_nil r1
  obtain rfl : args = #[v0, v1] := by cases args; simp_all
  obtain ⟨rfl, rfl⟩ := trodVars_none hV
  obtain ⟨a0, rfl, rfl, rfl, w0⟩ := open_int Tryz.underlying3 (hval 0 3 v0 rfl rfl) h0
  obtain ⟨a1, rfl, rfl, rfl, w1⟩ := open_int Tryz.underlying3 (hval 1 3 v1 rfl rfl) h1
  clear hA0 hval0
  simp only [List.append_nil] at hW'
  refine (all a0 (bounds_i64 w0) a1 (bounds_i64 w1) W (ground_of (by kernel_rfl) (by simp) hL)).mono fun e W' ⟨he, hg⟩ => ?_
  subst he
  exact ⟨_, rfl, post_new hW' (fun _ _ _ => (trodAll_cons_mk (shut_bool Tryz.underlying4 _) trodAll_mk0)) (fun sp => (trodAll_cons_mk (shut_int Tryz.underlying3 w0) (trodAll_cons_mk (shut_int Tryz.underlying3 w1) trodAll_mk0))) (fun _ => rfl) hg (ok_one (by kernel_rfl) rfl (okWide_bool_mk Tryz.underlying4 _))⟩

theorem row_holds : Rows.CheckCountsSaid :=
  OpenClaim.holds_of_wide 7 Tryz.f7 rfl rfl rfl rfl rfl rfl rfl ⟨rfl, rfl, rfl, rfl, rfl⟩ rfl rfl rfl rfl rfl (by kernel_rfl) Tryz.func7 (by kernel_rfl)
    (of_decide_eq_true (by kernel_rfl)) (by unfold Func.isWrapper; first | (rw [if_pos (by decide +kernel)]; kernel_rfl) | (rw [if_neg (by decide +kernel)]; exact ⟨rfl, rfl⟩))
    (fun os started H enc _ => lifted os started H enc)

/-- THE TIED CARD. -/
theorem proved : Rows.CheckCountsCardSaid :=
  Claim7.holds_tied_plain_at .later [] [.data] true (true, "c943f872ca2d9f9f81c620679e9a8bbe22fc0b1696667d16fa7e21e845c9e98a") false
    row_holds (fun _ h => by cases h) (by kernel_rfl) (fun _ h => by cases h) checkCounts_row_tie rfl ⟨rfl, rfl⟩ (by kernel_rfl) rfl
    (fun f fn hf hfn => by
      obtain rfl : f = 7 := Option.some.inj ((show Tryz.prog.funcNamed "palings/palingslaw05.CheckCounts" = some 7 by kernel_rfl).symm.trans hf) |>.symm
      obtain rfl : fn = Tryz.f7 := (Option.some.inj (Tryz.func7.symm.trans hfn)).symm
      exact ⟨by kernel_rfl, fun j t ht => by
        rw [Tryz.params7] at ht
        have hm : t ∈ [3, 3] := by simpa using Array.mem_of_getElem? ht
        have hall : ([3, 3].all fun u => !Tryz.prog.wantsStandIn u) = true := by kernel_rfl
        exact (show Tryz.prog.wantsStandIn t = false by simpa using List.all_eq_true.1 hall t hm)⟩)
    (by kernel_rfl)
#print axioms proved
end Go.Proofs.YtffgioifjdpajaaGreatDoor.checkCounts
