/-
  FlowLine.
-/
import Derived.Test.YtipongpgmbhpkaaDomAH
namespace Go.Proofs.Ytipongpgmbhpkaa
open Go.ChangeShapes Go.WideShapes Go.ChangeAt Go.RowKit
set_option linter.unusedVariables false

def lineA (k : Nat) : List (List Int) := [[1]] ++ (List.range k).map (fun i => [Int.ofNat (i + 2)])
def lineB (n j : Nat) : List (List Int) := lineA n ++ [[Int.ofNat (n + 2)]] ++ (List.range j).map (fun j => [Int.ofNat (n - j), Int.ofNat (n + 2 + j + 1)])
def lineG (n : Nat) : List (List Int) := lineB n n ++ [[]]
def wantG (n : Nat) : List Int := [0] ++ (List.range n).map (fun i => Int.ofNat (i + 1)) ++ [Int.ofNat n] ++ (List.range n).map (fun j => Int.ofNat (n - j)) ++ [0]
theorem lineOk : ((List.range 8).all fun n => fixedOk (graphL (lineG n)) && (decide (depthsL (graphL (lineG n)) = wantG n) && decide ((graphL (lineG n)).outs.length = 2 * n + 3))) = true := by kernel_rfl
theorem line_at {m : Nat} (h : m < 8) : fixedOk (graphL (lineG m)) = true ∧ depthsL (graphL (lineG m)) = wantG m ∧ (graphL (lineG m)).outs.length = 2 * m + 3 := by
  have := List.all_eq_true.1 lineOk m (List.mem_range.2 h)
  simp only [Bool.and_eq_true, decide_eq_true_eq] at this
  exact this
theorem lineOk2 : ((List.range 8).all fun n => (lineG n).all (fun r => decide (r.length ≤ 1000000)) && decide (edges (lineG n) ≤ 1000000)) = true := by kernel_rfl
theorem line_rows {m : Nat} (h : m < 8) : ∀ r ∈ lineG m, r.length ≤ 1000000 := by
  have := List.all_eq_true.1 lineOk2 m (List.mem_range.2 h)
  simp only [Bool.and_eq_true, decide_eq_true_eq, List.all_eq_true] at this
  exact this.1
theorem line_edges {m : Nat} (h : m < 8) : edges (lineG m) ≤ 1000000 := by
  have := List.all_eq_true.1 lineOk2 m (List.mem_range.2 h)
  simp only [Bool.and_eq_true, decide_eq_true_eq] at this
  exact this.2
def wantOf (n b : Nat) : Int := if 1 ≤ b ∧ b ≤ n then (b : Int) else if b = n + 1 then (n : Int) else if n + 2 ≤ b ∧ b < n + 2 + n then (n : Int) - ((b : Int) - (n : Int) - 2) else 0
theorem wantOk : ((List.range 8).all fun n => (List.range (2 * n + 3)).all fun b => decide ((wantG n)[b]? = some (wantOf n b))) = true := by kernel_rfl
theorem want_at {n : Nat} (h : n < 8) : ∀ b, b < 2 * n + 3 → ∃ V, (wantG n)[b]? = some V ∧ ((b = 0 ∧ V = 0) ∨ (1 ≤ b ∧ b ≤ n ∧ V = (b : Int)) ∨ (b = n + 1 ∧ V = (n : Int)) ∨ (n + 2 ≤ b ∧ b < n + 2 + n ∧ V = (n : Int) - ((b : Int) - (n : Int) - 2)) ∨ (b = n + 2 + n ∧ V = 0)) := by
  intro b hb
  have := List.all_eq_true.1 (List.all_eq_true.1 wantOk n (List.mem_range.2 h)) b (List.mem_range.2 hb)
  refine ⟨_, of_decide_eq_true this, ?_⟩
  unfold wantOf
  split
  · exact .inr (.inl ⟨by omega, by omega, rfl⟩)
  · split
    · exact .inr (.inr (.inl ⟨by omega, rfl⟩))
    · split
      · exact .inr (.inr (.inr (.inl ⟨by omega, by omega, rfl⟩)))
      · by_cases h0 : b = 0
        · exact .inl ⟨h0, rfl⟩
        · exact .inr (.inr (.inr (.inr ⟨by omega, rfl⟩)))
theorem lineA_len (k : Nat) : (lineA k).length = k + 1 := by unfold lineA; simp
theorem lineB_len (n j : Nat) : (lineB n j).length = n + 2 + j := by unfold lineB; simp [lineA_len]; omega
theorem lineG_len (n : Nat) : (lineG n).length = 2 * n + 3 := by unfold lineG; simp [lineB_len]; omega
theorem lineA_succ (k : Nat) : lineA (k + 1) = lineA k ++ [[Int.ofNat (k + 2)]] := by unfold lineA; rw [List.range_succ]; simp
theorem lineB_succ (n j : Nat) : lineB n (j + 1) = lineB n j ++ [[Int.ofNat (n - j), Int.ofNat (n + 2 + j + 1)]] := by unfold lineB; rw [List.range_succ]; simp
theorem lineB_zero (n : Nat) : lineB n 0 = lineA n ++ [[Int.ofNat (n + 2)]] := by unfold lineB; simp
theorem and7 (n : Int) : bits .and .i64 n 7 = ((n % 8).toNat : Int) := by
  show IntKind.i64.wrap ((BitVec.ofInt 64 n &&& BitVec.ofInt 64 7).toNat : Int) = _
  have h16 : (BitVec.ofInt 64 7).toNat = 7 := by decide
  have hb : ((BitVec.ofInt 64 n).toNat : Int) = n % 18446744073709551616 := by
    rw [BitVec.toNat_ofInt]
    have e : ((2 ^ 64 : Nat) : Int) = 18446744073709551616 := by decide
    rw [e]; omega
  rw [IntWalk.i64_left, BitVec.toNat_and, h16]
  have e : ∀ x : Nat, x &&& 7 = x % 8 := fun x => Nat.and_two_pow_sub_one_eq_mod x 3
  rw [e]
  unfold wrap64
  omega
theorem own_two {B b : Nat} {w : World} {x y : Int} (h : w.heap[b]? = some (.cells #[.int .i64 x, .int .i64 y] 3 (0, 0))) (hB : B ≤ b) : w.ownsRow B 3 1 (.slice (some ⟨b, 0, none⟩) 2 2) [x, y].length ([x, y].map iV) := own_cellsAt h hB (by unfold maxLen; simp)
set_option maxHeartbeats 8000000 in
set_option maxRecDepth 100000 in
theorem line_any {w : World} (n : Int) (hn : -9223372036854775808 ≤ n ∧ n ≤ 9223372036854775807) :
    Calls Try.prog 7 #[.int .i64 n] w fun e w' => e = .returned (.bool true) ∧ Below w.heap.size w w' := by
  go_enter Try.func7, Try.ntmps7
  go_wp2_with (fail)
  refine head_any.mono ?_
  rintro e w1 ⟨rfl, hb1⟩
  have HB1 := Lib.hid hb1
  clear hb1
  obtain ⟨i0, hi, hz0⟩ := Option.map_eq_some_iff.1 info35
  obtain ⟨h1, h2, h3⟩ : i0.zero = some (.slice none 0 0) ∧ i0.size = 1 ∧ i0.bytes = 24 := by simpa using hz0
  have HI := Lib.hid hi; have HZ0 := Lib.hid h1; have HZ1 := Lib.hid h2; have HZ2 := Lib.hid h3
  clear hi h1 h2 h3 hz0
  go_wp2_with (fail)
  have hband := and7 n
  obtain ⟨m, hm⟩ : ∃ m, m = (n % 8).toNat := ⟨_, rfl⟩
  have hm7 : m < 8 := by omega
  rw [← hm] at hband
  rw [hband]
  clear hband hm hn
  have HWS := Lib.hid ((lit_at w1 [[1]] (by decide) (by decide)).mono HB1.out.size)
  have HB2 := Lib.hid (foldl_below (litObjs w1.heap.size [[1]]) w1 HB1.out HB1.out.size)
  generalize hgw : (litObjs w1.heap.size [[1]]).foldl World.alloc w1 = w2 at *
  change Code.wp _ _ _ _ ((litObjs w1.heap.size [[1]]).foldl World.alloc w1)
  rw [hgw]
  obtain ⟨b1, hb1⟩ : ∃ b1, b1 = w1.heap.size := ⟨_, rfl⟩
  rw [← hb1] at HWS ⊢
  clear hgw HB1 hb1
  go_loopw [3, 4] (fun wv iv wr => ∃ (k : Nat) (wa : Option Addr) (wc : Nat) (hs : List Value), k ≤ m ∧ iv = .int .i64 ((k : Int) + 1) ∧ wv = .slice wa (k + 1) wc ∧ Below w.heap.size w wr ∧ WsAt w.heap.size wr (.slice wa (k + 1) wc) hs (lineA k)) (fun _ iv _ => m + 1 - (intOf iv).toNat)
  case atStart => exact ⟨0, _, _, _, Nat.zero_le _, rfl, rfl, HB2.out, HWS.out⟩
  case round =>
    rename World => wr
    obtain ⟨k, wa, wc, hs, hk, rfl, rfl, hbr, hws⟩ := hrel
    have HBR := Lib.hid hbr; have HW := Lib.hid hws
    clear hbr hws
    by_cases hkm : k < m
    · have hki : (k : Int) + 1 ≤ (m : Int) := by omega
      have hwr : w.heap.size ≤ wr.heap.size := HBR.out.size
      have HX3 := Lib.hid (HW.out.below (((Below.refl _ _).alloc (Nat.le_refl _) (.cells #[.int .i64 ((k : Int) + 1 + 1)] 3 (0, 0))).alloc (by simp) (.cells #[.slice (some ⟨wr.heap.size, 0, none⟩) 1 1] 35 (0, 0))))
      have HWL3 := Lib.hid (show (lineA k).length = k + 1 from lineA_len k)
      go_wp2_with (at_builtin; refine wpList_append_lies _ rfl _ _ 22 rfl w.heap.size 35 i0 (.slice none 0 0) 1 24 Try.underlying22 HI.out HZ0.out HZ1.out HZ2.out rfl (by decide) _ (k + 1) hs rfl ?hown ⟨wr.heap.size + 1, 0, none⟩ 1 1 [.slice (some ⟨wr.heap.size, 0, none⟩) 1 1] rfl rfl ?hnews (one_sl _ _ _) (by decide) ?h63 ?hby ?hba (wr.heap.size + 1 + 1) ?hH ?_)
      case hown => have := HX3.out.head; rw [HWL3.out] at this; exact this
      all_goals try (case hnews => exact World.news_of_block (cs := #[.slice (some ⟨wr.heap.size, 0, none⟩) 1 1]) (alloc_at _ _ _ (by simp)))
      case h63 => unfold maxLen; omega
      case hby => omega
      case hba => first | omega | (simp; omega)
      all_goals try (case hH => simp)
      intro b3 cap3 w3 hown hgr hat hlt
      have hrow : ((wr.alloc (.cells #[.int .i64 ((k : Int) + 1 + 1)] 3 (0, 0))).alloc (.cells #[.slice (some ⟨wr.heap.size, 0, none⟩) 1 1] 35 (0, 0))).ownsRow w.heap.size 3 1 (.slice (some ⟨wr.heap.size, 0, none⟩) 1 1) ([(k : Int) + 1 + 1] : List Int).length (([(k : Int) + 1 + 1] : List Int).map iV) := own_one ((Below.heap_alloc _ _ _ (by simp)).trans (alloc_at _ _ _ rfl)) hwr
      have HB3 := Lib.hid (((HBR.out.alloc hwr (.cells #[.int .i64 ((k : Int) + 1 + 1)] 3 (0, 0))).alloc (by simp; omega) (.cells #[.slice (some ⟨wr.heap.size, 0, none⟩) 1 1] 35 (0, 0))).grown hgr (by simp; omega) (fun q hq => (HX3.out.head.lt q hq).1))
      have HW3 := Lib.hid (HX3.out.app hrow (by rw [HWL3.out]; exact hown) hgr)
      rw [HWL3.out, show lineA k ++ [([(k : Int) + 1 + 1] : List Int)] = lineA (k + 1) from by rw [lineA_succ]; rfl] at HW3
      clear hrow hown hgr hat hlt HX3 HWL3
      go_wp2_with (fail)
      go_roundw
      case rel => exact ⟨k + 1, _, _, _, by omega, by go_num, rfl, HB3.out, HW3.out⟩
      case measure => simp [intOf]; omega
    · obtain rfl : m = k := by omega
      have hwr : w.heap.size ≤ wr.heap.size := HBR.out.size
      clear HWS HB2
      have HX4 := Lib.hid (HW.out.below (((Below.refl _ _).alloc (Nat.le_refl _) (.cells #[.int .i64 ((m : Int) + 2)] 3 (0, 0))).alloc (by simp) (.cells #[.slice (some ⟨wr.heap.size, 0, none⟩) 1 1] 35 (0, 0))))
      have HWL4 := Lib.hid (show (lineA m).length = m + 1 from lineA_len m)
      go_wp2_with (at_builtin; refine wpList_append_lies _ rfl _ _ 22 rfl w.heap.size 35 i0 (.slice none 0 0) 1 24 Try.underlying22 HI.out HZ0.out HZ1.out HZ2.out rfl (by decide) _ (m + 1) hs rfl ?hown ⟨wr.heap.size + 1, 0, none⟩ 1 1 [.slice (some ⟨wr.heap.size, 0, none⟩) 1 1] rfl rfl ?hnews (one_sl _ _ _) (by decide) ?h63 ?hby ?hba (wr.heap.size + 1 + 1) ?hH ?_)
      case hown => have := HX4.out.head; rw [HWL4.out] at this; exact this
      all_goals try (case hnews => exact World.news_of_block (cs := #[.slice (some ⟨wr.heap.size, 0, none⟩) 1 1]) (alloc_at _ _ _ (by simp)))
      case h63 => unfold maxLen; omega
      case hby => omega
      case hba => first | omega | (simp; omega)
      all_goals try (case hH => simp)
      intro b4 cap4 w4 hown hgr hat hlt
      have hrow : ((wr.alloc (.cells #[.int .i64 ((m : Int) + 2)] 3 (0, 0))).alloc (.cells #[.slice (some ⟨wr.heap.size, 0, none⟩) 1 1] 35 (0, 0))).ownsRow w.heap.size 3 1 (.slice (some ⟨wr.heap.size, 0, none⟩) 1 1) ([(m : Int) + 2] : List Int).length (([(m : Int) + 2] : List Int).map iV) := own_one ((Below.heap_alloc _ _ _ (by simp)).trans (alloc_at _ _ _ rfl)) hwr
      have HB4 := Lib.hid (((HBR.out.alloc hwr (.cells #[.int .i64 ((m : Int) + 2)] 3 (0, 0))).alloc (by simp; omega) (.cells #[.slice (some ⟨wr.heap.size, 0, none⟩) 1 1] 35 (0, 0))).grown hgr (by simp; omega) (fun q hq => (HX4.out.head.lt q hq).1))
      have HW4 := Lib.hid (HX4.out.app hrow (by rw [HWL4.out]; exact hown) hgr)
      rw [HWL4.out, show lineA m ++ [([(m : Int) + 2] : List Int)] = lineB m 0 from by rw [lineB_zero]; rfl] at HW4
      clear hrow hown hgr hat hlt HX4 HWL4
      go_upto_region 11 with (fail)
      clear HBR HW hwr
      go_loopw [3, 5] (fun wv iv wr => ∃ (c j q : Nat) (wa : Option Addr) (wc : Nat) (hs : List Value), c + j = m ∧ q = m + 2 + j ∧ iv = .int .i64 c ∧ wv = .slice wa q wc ∧ Below w.heap.size w wr ∧ WsAt w.heap.size wr (.slice wa q wc) hs (lineB m j)) (fun _ iv _ => (intOf iv).toNat)
      case atStart => exact ⟨m, 0, m + 1 + 1, _, _, _, rfl, rfl, rfl, rfl, HB4.out, HW4.out⟩
      case round =>
        rename World => wr
        obtain ⟨c, j, q, wa, wc, hs, hcj, hq, rfl, rfl, hbr, hws⟩ := hrel
        have HBR := Lib.hid hbr; have HW := Lib.hid hws
        have HCJ := Lib.hid hcj; have HQ := Lib.hid hq
        have hwr : w.heap.size ≤ wr.heap.size := HBR.out.size
        have hq20 : q ≤ 20 := by omega
        have hqp : 0 < q := by omega
        have hc8 : c ≤ 8 := by omega
        clear hbr hws HB4 HW4 hcj hq
        by_cases hc : 1 ≤ c
        · have hci : 1 ≤ (c : Int) := by omega
          obtain ⟨d, hd⟩ : ∃ d, c = d + 1 := ⟨c - 1, by omega⟩
          have HD := Lib.hid hd
          clear hd
          have HX5 := Lib.hid (HW.out.below (((Below.refl _ _).alloc (Nat.le_refl _) (.cells #[.int .i64 ((c : Int)), .int .i64 ((q : Int) + 1)] 3 (0, 0))).alloc (by simp) (.cells #[.slice (some ⟨wr.heap.size, 0, none⟩) 2 2] 35 (0, 0))))
          have HWL5 := Lib.hid (show (lineB m j).length = q from (lineB_len m j).trans HQ.out.symm)
          go_wp2_with (at_builtin; refine wpList_append_lies _ rfl _ _ 22 rfl w.heap.size 35 i0 (.slice none 0 0) 1 24 Try.underlying22 HI.out HZ0.out HZ1.out HZ2.out rfl (by decide) _ (q) hs rfl ?hown ⟨wr.heap.size + 1, 0, none⟩ 1 1 [.slice (some ⟨wr.heap.size, 0, none⟩) 2 2] rfl rfl ?hnews (one_sl _ _ _) (by decide) ?h63 ?hby ?hba (wr.heap.size + 1 + 1) ?hH ?_)
          case hown => have := HX5.out.head; rw [HWL5.out] at this; exact this
          all_goals try (case hnews => exact World.news_of_block (cs := #[.slice (some ⟨wr.heap.size, 0, none⟩) 2 2]) (alloc_at _ _ _ (by simp)))
          case h63 => unfold maxLen; omega
          case hby => omega
          case hba => first | omega | (simp; omega)
          all_goals try (case hH => simp)
          intro b5 cap5 w5 hown hgr hat hlt
          have hrow : ((wr.alloc (.cells #[.int .i64 ((c : Int)), .int .i64 ((q : Int) + 1)] 3 (0, 0))).alloc (.cells #[.slice (some ⟨wr.heap.size, 0, none⟩) 2 2] 35 (0, 0))).ownsRow w.heap.size 3 1 (.slice (some ⟨wr.heap.size, 0, none⟩) 2 2) ([(c : Int), (q : Int) + 1] : List Int).length (([(c : Int), (q : Int) + 1] : List Int).map iV) := own_two ((Below.heap_alloc _ _ _ (by simp)).trans (alloc_at _ _ _ rfl)) hwr
          have HB5 := Lib.hid (((HBR.out.alloc hwr (.cells #[.int .i64 ((c : Int)), .int .i64 ((q : Int) + 1)] 3 (0, 0))).alloc (by simp; omega) (.cells #[.slice (some ⟨wr.heap.size, 0, none⟩) 2 2] 35 (0, 0))).grown hgr (by simp; omega) (fun q hq => (HX5.out.head.lt q hq).1))
          have HW5 := Lib.hid (HX5.out.app hrow (by rw [HWL5.out]; exact hown) hgr)
          rw [HWL5.out, show lineB m j ++ [([(c : Int), (q : Int) + 1] : List Int)] = lineB m (j + 1) from by rw [lineB_succ, show m - j = c from by have := HCJ.out; omega, ← HQ.out]; rfl] at HW5
          clear hrow hown hgr hat hlt HX5 HWL5
          go_wp2_with (fail)
          go_roundw
          case rel => exact ⟨d, j + 1, q + 1, _, _, _, by have := HCJ.out; have := HD.out; omega, by have := HQ.out; omega, by rw [show (c : Int) - 1 = (d : Int) from by have := HD.out; omega], rfl, HB5.out, HW5.out⟩
          case measure => simp [intOf]; omega
        · obtain rfl : c = 0 := by omega
          obtain rfl : j = m := by have := HCJ.out; omega
          have HX6 := Lib.hid (HW.out.below ((Below.refl _ _).alloc (Nat.le_refl _) (.cells #[.slice none 0 0] 35 (0, 0))))
          have HWL6 := Lib.hid ((lineB_len j j).trans HQ.out.symm)
          go_wp2_with (at_builtin; refine wpList_append_lies _ rfl _ _ 22 rfl w.heap.size 35 i0 (.slice none 0 0) 1 24 Try.underlying22 HI.out HZ0.out HZ1.out HZ2.out rfl (by decide) _ q hs rfl ?hown ⟨wr.heap.size, 0, none⟩ 1 1 [.slice none 0 0] rfl rfl ?hnews (one_sl _ _ _) (by decide) ?h63 ?hby ?hba (wr.heap.size + 1) ?hH ?_)
          case hown => have := HX6.out.head; rw [HWL6.out] at this; exact this
          all_goals try (case hnews => exact World.news_of_block (cs := #[.slice none 0 0]) (alloc_at _ _ _ rfl))
          case h63 => unfold maxLen; omega
          case hby => omega
          case hba => first | omega | (simp; omega)
          all_goals try (case hH => simp)
          intro b6 cap6 w6 hown hgr hat hlt
          have HB6 := Lib.hid ((HBR.out.alloc hwr (.cells #[.slice none 0 0] 35 (0, 0))).grown hgr (by simp; omega) (fun q hq => (HX6.out.head.lt q hq).1))
          have HW6 := Lib.hid (HX6.out.app (row := []) (v := .slice none 0 0) (own_nil _ _ _) (by rw [HWL6.out]; exact hown) hgr)
          rw [HWL6.out, show lineB j j ++ [([] : List Int)] = lineG j from rfl] at HW6
          have HGL := Lib.hid (show q + 1 = (lineG j).length from by rw [lineG_len]; have := HQ.out; omega)
          clear hown hgr hat hlt HX6 HBR HW HWL6
          obtain ⟨hok, hdep, holen⟩ := line_at hm7
          have hr8 : ∀ r ∈ lineG j, r.length ≤ 1000000 := line_rows hm7
          have he8 : edges (lineG j) ≤ 1000000 := line_edges hm7
          have HOK := Lib.hid hok; have HDEP := Lib.hid hdep; have HOL := Lib.hid holen
          have HR8 := Lib.hid hr8; have HE8 := Lib.hid he8
          clear hok hdep holen hr8 he8
          go_wp2_with (fail)
          rw [HGL.out]
          refine (lof_any (ways := lineG j) HW6.out.ways (by rw [← HGL.out]; omega) HR8.out).mono ?_
          rintro e w7 ⟨nm, bv, rfl, hb7, hbl⟩
          have HB7 := Lib.hid (HB6.out.trans (hb7.mono HB6.out.size)); have HBLK := Lib.hid hbl
          clear HB6 HW6 hb7 hbl
          go_wp2_with (fail)
          refine (new_any HBLK.out (by rw [← HGL.out]; omega) HE8.out).mono ?_
          rintro e w8 ⟨G, ov, iv, os, js, rfl, hb8, hg⟩
          have HB8 := Lib.hid (HB7.out.trans (hb8.mono HB7.out.size)); have HG := Lib.hid hg
          clear HB7 HBLK hb8 hg
          go_wp2_with (fail)
          refine (depths_fixed HG.out HOK.out).mono ?_
          rintro e w9 ⟨dv, rfl, hb9, hd⟩
          rw [HOL.out, HDEP.out] at hd
          have HB9 := Lib.hid (HB8.out.trans (hb9.mono HB8.out.size))
          rcases own_slice hd with ⟨h0, h1⟩ | ⟨g, c, rfl, _, hgl, hcap⟩
          · cases h1
          have HD9 := Lib.hid hd
          clear HB8 HG hb9 hd
          have hql : (lineG j).length = 2 * j + 3 := lineG_len j
          rw [hql]
          clear hql
          clear HOK HDEP HOL HR8 HE8 HGL HQ HCJ hq20 hqp hc8 hc hwr hkm hk
          go_wp2_with (fail)
          have hw5 := want_at hm7
          have HW5 := Lib.hid hw5
          clear hw5
          go_loopw [54] (fun iv wr => ∃ (b : Nat), b ≤ 2 * j + 3 ∧ iv = .int .i64 b ∧ wr = w9) (fun iv _ => 2 * j + 3 - (intOf iv).toNat)
          case atStart => exact ⟨0, Nat.zero_le _, rfl, rfl⟩
          case round =>
            rename World => wr
            obtain ⟨b, hb, rfl, rfl⟩ := hrel
            by_cases hbn : b < 2 * j + 3
            · have hbi : (b : Int) < ((2 * j + 3 : Nat) : Int) := by omega
              obtain ⟨V, hV, hcase⟩ := HW5.out b hbn
              have hc := (own_at HD9.out hV).1
              clear hV
              have hcase2 : ((b : Int) < 1 ∧ V = 0) ∨ (1 ≤ (b : Int) ∧ (b : Int) ≤ (j : Int) ∧ V = (b : Int)) ∨ ((j : Int) < (b : Int) ∧ (b : Int) < (j : Int) + 2 ∧ V = (j : Int)) ∨ ((j : Int) + 2 ≤ (b : Int) ∧ (b : Int) < (j : Int) + 2 + (j : Int) ∧ V = (j : Int) - ((b : Int) - (j : Int) - 2)) ∨ ((j : Int) + 2 + (j : Int) ≤ (b : Int) ∧ (1 : Int) ≤ (b : Int) ∧ (j : Int) < (b : Int) ∧ V = 0) := by omega
              clear hcase
              rcases hcase2 with ⟨q1, q2⟩ | ⟨q1, q2, q3⟩ | ⟨q1, q2, q3⟩ | ⟨q1, q2, q3⟩ | ⟨q1, q2, q3, q4⟩
              all_goals subst V
              all_goals go_wp2_with (fail)
              all_goals go_roundw
              all_goals try (case rel => exact ⟨b + 1, by omega, by go_num, by trivial⟩)
              all_goals try (case measure => simp [intOf]; omega)
            · obtain rfl : b = 2 * j + 3 := by omega
              go_wp2_with (fail)
              go_ret
              exact ⟨rfl, HB9.out⟩
end Go.Proofs.Ytipongpgmbhpkaa
