/-
  What LexBytes' walk comes to, byte by byte: it returns true. The table of marks is asked for.
-/
import Derived.Test.YtjpejdjiecfbnabDoorLexG
namespace Go.Proofs.YtjpejdjiecfbnabDoor.lexBytes
open Go.ChangeShapes Go.WideShapes Go.ChangeAt Go.RowKit
set_option linter.unusedVariables false
theorem lex_letter (c : UInt8) (h : letterB (c.toNat : Int) = true) : lexL [c] = .ok [⟨1, [c], 0, 1, 1⟩, ⟨0, [], 0, 1, 2⟩] := by
  have hs : spanL inNameB [c] = 1 := by
    have : inNameB (c.toNat : Int) = true := by simp [inNameB, h]
    simp [spanL, this]
  have ht : tokL [c] = ⟨0, 1, 1, 0⟩ := by
    rw [tokL_letter rfl h, hs]
    have : reservedB [c] = false := by simp [reservedB]
    simp [this]
  have hb : blankB (c.toNat : Int) = false := by simp [letterB, blankB] at h ⊢; omega
  have hg : gapL [c] = 0 := by simp [gapL, hb, Lib.hasPrefix, List.isPrefixOf]
  have hn : ((c.toNat : Int) == 10) = false := by simp [blankB] at hb; simp; omega
  unfold lexL
  rw [goL, if_pos hg, ht, if_pos rfl, goL]
  simp [lineB, colB, hn]
theorem lex_digit (c : UInt8) (hl : letterB (c.toNat : Int) = false) (h : digitB (c.toNat : Int) = true) : lexL [c] = .ok [⟨2, [c], (c.toNat : Int) - 48, 1, 1⟩, ⟨0, [], 0, 1, 2⟩] := by
  have hs : spanL digitB [c] = 1 := by simp [spanL, h]
  have hr : 48 ≤ (c.toNat : Int) ∧ (c.toNat : Int) ≤ 57 := by simpa [digitB] using h
  have hq : numL 0 ([c].take (spanL digitB [c])) = some ((c.toNat : Int) - 48) := by
    rw [hs]
    show numL 0 [c] = _
    rw [numL, if_neg (by omega), numL]
    simp
  have ht : tokL [c] = ⟨0, 1, 2, (c.toNat : Int) - 48⟩ := by rw [tokL_some rfl hl h hq, hs]
  have hb : blankB (c.toNat : Int) = false := by simp [blankB]; omega
  have hg : gapL [c] = 0 := by simp [gapL, hb, Lib.hasPrefix, List.isPrefixOf]
  have hn : ((c.toNat : Int) == 10) = false := by simp; omega
  unfold lexL
  rw [goL, if_pos hg, ht, if_pos rfl, goL]
  simp [lineB, colB, hn]
theorem lex_blank (c : UInt8) (h : blankB (c.toNat : Int) = true) : lexL [c] = .ok [⟨0, [], 0, lineB 1 c, colB 1 c⟩] := by
  have hg : gapL [c] = 1 := by simp [gapL, h]
  unfold lexL
  rw [goL, if_neg (by rw [hg]; decide), hg, goL]
  rfl
theorem lex_mark (c : UInt8) (hl : letterB (c.toNat : Int) = false) (hd : digitB (c.toNat : Int) = false) (hb : blankB (c.toNat : Int) = false) (h : singleB c = true) : lexL [c] = .ok [⟨4, [c], 0, 1, 1⟩, ⟨0, [], 0, 1, 2⟩] := by
  have hm : markL [c] = 1 := by simp [markL, h]
  have ht : tokL [c] = ⟨0, 1, 4, 0⟩ := by rw [tokL_mark rfl hl hd (by rw [hm]; decide), hm]
  have hg : gapL [c] = 0 := by simp [gapL, hb, Lib.hasPrefix, List.isPrefixOf]
  have hn : ((c.toNat : Int) == 10) = false := by simp [blankB] at hb; simp; omega
  unfold lexL
  rw [goL, if_pos hg, ht, if_pos rfl, goL]
  simp [lineB, colB, hn]
theorem lex_sign (c : UInt8) (hl : letterB (c.toNat : Int) = false) (hd : digitB (c.toNat : Int) = false) (hb : blankB (c.toNat : Int) = false) (h : singleB c = false) : lexL [c] = .error (10, 1, 1) := by
  have hm : markL [c] = 0 := by simp [markL, h]
  have ht : tokL [c] = ⟨10, 0, 0, 0⟩ := tokL_sign rfl hl hd (by rw [hm]; decide)
  have hg : gapL [c] = 0 := by simp [gapL, hb, Lib.hasPrefix, List.isPrefixOf]
  unfold lexL
  rw [goL, if_pos hg, ht, if_neg (by decide)]
/-- The marks, by the page. -/
def marksAll : List (List UInt8) := [[38, 38], [124, 124], [61, 61], [33, 61], [60, 61], [62, 61], [60, 60], [62, 62], [43], [45], [42], [47], [37], [38], [124], [94], [60], [62], [61], [33], [40], [41], [123], [125], [91], [93], [44], [59]]
theorem single_all (c : UInt8) : singleB c = marksAll.contains [c] := by
  have h : ∀ n : Fin 256, singleB (UInt8.ofNat n.val) = marksAll.contains [UInt8.ofNat n.val] := by decide +kernel
  have e : UInt8.ofNat c.toNat = c := by simp
  have := h ⟨c.toNat, c.toNat_lt⟩
  rwa [e] at this
theorem one_num (c : UInt8) : strOfNums [(c.toNat : Int)] = ⟨#[c]⟩ := by
  simp [strOfNums]
theorem conv_one (c : UInt8) (w : World) : (convert 45 9 (.slice (some ⟨w.heap.size, 0, none⟩) 1 1)).run Tryd.prog (w.alloc (.cells #[.int .u8 (c.toNat : Int)] 5)) = .ok (.string ⟨#[c]⟩) (w.alloc (.cells #[.int .u8 (c.toNat : Int)] 5)) := by
  rw [← one_num]
  refine run_convert_bytes_arg (P := Tryd.prog) _ 45 5 Tryd.underlying45 Tryd.underlying5 w.heap.size 0 1 1 [(c.toNat : Int)] rfl (fun i hi => ?_) 9 Tryd.underlying9
  obtain rfl : i = 0 := by omega
  simp

/-- What the table of marks holds. -/
def Table (w : World) (b off cap : Nat) : Prop :=
  b < w.heap.size ∧ 1 < w.heap.size ∧ w.cell? ⟨1, 0, none⟩ = some (.slice (some ⟨b, off, none⟩) 28 cap) ∧ ∀ j x, marksAll[j]? = some x → w.cell? ⟨b, off + j, none⟩ = some (.string ⟨x.toArray⟩)

set_option maxHeartbeats 1000000 in
theorem two_core (c : UInt8) (x k num : Int) (S : ByteArray) (hS : S.size = 1)
    (hcv : ∀ w : World, (convert 45 9 (.slice (some ⟨w.heap.size, 0, none⟩) 1 1)).run Tryd.prog (w.alloc (.cells #[.int .u8 x] 5)) = .ok (.string S) (w.alloc (.cells #[.int .u8 x] 5)))
    (hlex : ∀ w, Calls Tryd.prog 9 #[.string S] w fun e w' => ∃ g cap, e = .returned (.tuple #[.slice (some ⟨g, 0, none⟩) 2 cap, .agg #[.int .i64 0, .int .i64 0, .int .i64 0]]) ∧ Below w.heap.size w w' ∧ g < w'.heap.size ∧ 2 ≤ cap ∧
      w'.cell? ⟨g, 0, none⟩ = some (.int .i64 k) ∧ w'.cell? ⟨g, 1, none⟩ = some (.string S))
    (hk : (k = 1 ∧ ((97 ≤ x ∧ x ≤ 122) ∨ (65 ≤ x ∧ x ≤ 90) ∨ x = 95)) ∨ (k = 2 ∧ 48 ≤ x ∧ x ≤ 57)) (w : World) :
    Calls Tryd.prog 5 #[.int .u8 x] w fun e w' => e = .returned (.bool true) ∧ Below w.heap.size w w' := by
  have HLX := Lib.hid hlex; have HCV := Lib.hid hcv
  clear hlex hcv
  rcases hk with ⟨rfl, h | h | h⟩ | ⟨rfl, h⟩
  · obtain ⟨h1, h2⟩ := h
    go_enter Tryd.func5, Tryd.ntmps5
    go_wp2_with (fail)
    refine (head_any _).mono ?_; rintro e w1 ⟨rfl, hb1⟩
    have hcv := HCV.out w1
    go_wp2_with (fail)
    refine (HLX.out _).mono ?_; rintro e w2 ⟨g, cap, rfl, hb2, hg, hcap, t0, t1⟩
    go_wp2_with (fail)
    go_ret
    exact ⟨rfl, (((hb1.alloc hb1.size _).trans (hb2.mono (by have := hb1.size; simp; omega))).alloc (by have := hb1.size; have := hb2.size; simp at this; omega) _)⟩
  · obtain ⟨h1, h2⟩ := h
    go_enter Tryd.func5, Tryd.ntmps5
    go_wp2_with (fail)
    refine (head_any _).mono ?_; rintro e w1 ⟨rfl, hb1⟩
    have hcv := HCV.out w1
    go_wp2_with (fail)
    refine (HLX.out _).mono ?_; rintro e w2 ⟨g, cap, rfl, hb2, hg, hcap, t0, t1⟩
    go_wp2_with (fail)
    go_ret
    exact ⟨rfl, (((hb1.alloc hb1.size _).trans (hb2.mono (by have := hb1.size; simp; omega))).alloc (by have := hb1.size; have := hb2.size; simp at this; omega) _)⟩
  · subst h
    go_enter Tryd.func5, Tryd.ntmps5
    go_wp2_with (fail)
    refine (head_any _).mono ?_; rintro e w1 ⟨rfl, hb1⟩
    have hcv := HCV.out w1
    go_wp2_with (fail)
    refine (HLX.out _).mono ?_; rintro e w2 ⟨g, cap, rfl, hb2, hg, hcap, t0, t1⟩
    go_wp2_with (fail)
    go_ret
    exact ⟨rfl, (((hb1.alloc hb1.size _).trans (hb2.mono (by have := hb1.size; simp; omega))).alloc (by have := hb1.size; have := hb2.size; simp at this; omega) _)⟩
  · obtain ⟨h1, h2⟩ := h
    go_enter Tryd.func5, Tryd.ntmps5
    go_wp2_with (fail)
    refine (head_any _).mono ?_; rintro e w1 ⟨rfl, hb1⟩
    have hcv := HCV.out w1
    go_wp2_with (fail)
    refine (HLX.out _).mono ?_; rintro e w2 ⟨g, cap, rfl, hb2, hg, hcap, t0, t1⟩
    go_wp2_with (fail)
    go_ret
    exact ⟨rfl, (((hb1.alloc hb1.size _).trans (hb2.mono (by have := hb1.size; simp; omega))).alloc (by have := hb1.size; have := hb2.size; simp at this; omega) _)⟩
def wantAt (c : UInt8) (j : Nat) : Int := if (marksAll.take j).contains [c] then 4 else 0
theorem wantAt_step (c : UInt8) (j : Nat) (y : List UInt8) (h : marksAll[j]? = some y) : wantAt c (j + 1) = if (y == [c]) = true then 4 else wantAt c j := by
  have e : marksAll.take (j + 1) = marksAll.take j ++ [y] := by rw [List.take_add_one, h]; rfl
  unfold wantAt
  rw [e]
  by_cases hy : y = [c]
  · subst hy; simp
  · have h1 : (y == [c]) = false := by simpa using hy
    have h2 : ¬ [c] = y := fun e => hy e.symm
    simp [h1, h2]
theorem wantAt_end (c : UInt8) : wantAt c 28 = if singleB c = true then 4 else 0 := by
  rw [single_all]
  rfl
theorem Table.later {w w' : World} {b off cap : Nat} (h : Table w b off cap) (hb : Below w.heap.size w w') : Table w' b off cap :=
  ⟨by have := hb.size; have := h.1; omega, by have := hb.size; have := h.2.1; omega, (hb.cell h.2.1).trans h.2.2.1, fun j x hx => (hb.cell h.1).trans (h.2.2.2 j x hx)⟩

set_option maxHeartbeats 1000000 in
theorem blank_core (x : Int) (S : ByteArray) (hS : S.size = 1)
    (hcv : ∀ w : World, (convert 45 9 (.slice (some ⟨w.heap.size, 0, none⟩) 1 1)).run Tryd.prog (w.alloc (.cells #[.int .u8 x] 5)) = .ok (.string S) (w.alloc (.cells #[.int .u8 x] 5)))
    (hlex : ∀ w, Calls Tryd.prog 9 #[.string S] w fun e w' => ∃ g cap, e = .returned (.tuple #[.slice (some ⟨g, 0, none⟩) 1 cap, .agg #[.int .i64 0, .int .i64 0, .int .i64 0]]) ∧ Below w.heap.size w w')
    (hk : x = 32 ∨ x = 9 ∨ x = 10 ∨ x = 13) (w : World) :
    Calls Tryd.prog 5 #[.int .u8 x] w fun e w' => e = .returned (.bool true) ∧ Below w.heap.size w w' := by
  have HLX := Lib.hid hlex; have HCV := Lib.hid hcv
  clear hlex hcv
  rcases hk with rfl | rfl | rfl | rfl
  all_goals
    go_enter Tryd.func5, Tryd.ntmps5
    go_wp2_with (fail)
    refine (head_any _).mono ?_; rintro e w1 ⟨rfl, hb1⟩
    have hcv := HCV.out w1
    go_wp2_with (fail)
    refine (HLX.out _).mono ?_; rintro e w2 ⟨g, cap, rfl, hb2⟩
    go_wp2_with (fail)
    go_ret
    exact ⟨rfl, (((hb1.alloc hb1.size _).trans (hb2.mono (by have := hb1.size; simp; omega))).alloc (by have := hb1.size; have := hb2.size; simp at this; omega) _)⟩

set_option maxHeartbeats 2000000 in
theorem mark_core (c : UInt8) (x : Int) (S : ByteArray) (hS : S.size = 1) (hSl : S.toList = [c]) (b off cp : Nat)
    (hcv : ∀ w : World, (convert 45 9 (.slice (some ⟨w.heap.size, 0, none⟩) 1 1)).run Tryd.prog (w.alloc (.cells #[.int .u8 x] 5)) = .ok (.string S) (w.alloc (.cells #[.int .u8 x] 5)))
    (hlex : ∀ w, Calls Tryd.prog 9 #[.string S] w fun e w' => ∃ g cap, e = .returned (.tuple #[.slice (some ⟨g, 0, none⟩) 2 cap, .agg #[.int .i64 0, .int .i64 0, .int .i64 0]]) ∧ Below w.heap.size w w' ∧ g < w'.heap.size ∧ 2 ≤ cap ∧ w'.cell? ⟨g, 0, none⟩ = some (.int .i64 4) ∧ w'.cell? ⟨g, 1, none⟩ = some (.string S))
    (hs : singleB c = true)
    (b1 : (x == 32) = false) (b2 : (x == 9) = false) (b3 : (x == 10) = false) (b4 : (x == 13) = false) (b5 : (x == 95) = false)
    (hk : (x < 48) ∨ (57 < x ∧ x < 65) ∨ (90 < x ∧ x < 97) ∨ 122 < x) (w : World) (htab : Table w b off cp) :
    Calls Tryd.prog 5 #[.int .u8 x] w fun e w' => e = .returned (.bool true) ∧ Below w.heap.size w w' := by
  have HLX := Lib.hid hlex; have HCV := Lib.hid hcv; have HSL := Lib.hid hSl; have HTB := Lib.hid htab; have HSG := Lib.hid hs
  clear hlex hcv hSl htab hs
  rcases hk with h | ⟨h, h'⟩ | ⟨h, h'⟩ | h
  · go_enter Tryd.func5, Tryd.ntmps5
    go_wp2_with (fail)
    refine (head_any _).mono ?_; rintro e w1 ⟨rfl, hb1⟩
    have hcv := HCV.out w1
    go_wp2_with (fail)
    refine (HLX.out _).mono ?_; rintro e w2 ⟨g, cap, rfl, hb2, hg, hcap, t0, t1⟩
    have HB := Lib.hid ((hb1.alloc hb1.size (.cells #[.int .u8 x] 5)).trans (hb2.mono (by have := hb1.size; simp; omega)))
    have HT := Lib.hid (HTB.out.later HB.out)
    clear hb1 hb2 hcv
    have m1 := HT.out.2.2.1
    have z1 := HT.out.2.1
    have z2 := HT.out.1
    have hw : w.heap.size ≤ w2.heap.size := HB.out.size
    go_wp2_with (fail)
    go_loop [6, 21] (fun q i => ∃ j : Nat, j ≤ 28 ∧ q = .int .i64 (wantAt c j) ∧ i = .int .i64 j) (fun _ i => 28 - (intOf i).toNat)
    case atStart => exact ⟨0, by omega, rfl, rfl⟩
    case round =>
      obtain ⟨j, hj, rfl, rfl⟩ := hrel
      by_cases hlt : j < 28
      · have hy : marksAll[j]? = some (marksAll[j]'hlt) := List.getElem?_eq_getElem hlt
        have mj := HT.out.2.2.2 j _ hy
        have hst := wantAt_step c j _ hy
        have HST := Lib.hid hst
        clear hst hy
        generalize marksAll[j]'hlt = y at mj HST
        have hyl : (⟨y.toArray⟩ : ByteArray).toList = y := by rw [Lib.toList_data]
        have HYL := Lib.hid hyl; clear hyl
        generalize (⟨y.toArray⟩ : ByteArray) = Y at mj HYL
        rcases Bool.eq_false_or_eq_true (Y.toList == S.toList) with ht | ht
        · go_wp2_with (fail)
          go_round
          case rel =>
            rw [HYL.out, HSL.out] at ht
            exact ⟨j + 1, by omega, by rw [HST.out, if_pos ht], by go_num⟩
          case measure => simp [intOf]; omega
        · go_wp2_with (fail)
          go_round
          case rel =>
            rw [HYL.out, HSL.out] at ht
            exact ⟨j + 1, by omega, by rw [HST.out, if_neg (by rw [ht]; decide)], by go_num⟩
          case measure => simp [intOf]; omega
      · obtain rfl : j = 28 := by omega
        have hw4 : wantAt c 28 = 4 := by rw [wantAt_end, HSG.out]; rfl
        rw [hw4]
        go_wp2_with (fail)
        go_ret
        exact ⟨rfl, HB.out.alloc hw _⟩
  · go_enter Tryd.func5, Tryd.ntmps5
    go_wp2_with (fail)
    refine (head_any _).mono ?_; rintro e w1 ⟨rfl, hb1⟩
    have hcv := HCV.out w1
    go_wp2_with (fail)
    refine (HLX.out _).mono ?_; rintro e w2 ⟨g, cap, rfl, hb2, hg, hcap, t0, t1⟩
    have HB := Lib.hid ((hb1.alloc hb1.size (.cells #[.int .u8 x] 5)).trans (hb2.mono (by have := hb1.size; simp; omega)))
    have HT := Lib.hid (HTB.out.later HB.out)
    clear hb1 hb2 hcv
    have m1 := HT.out.2.2.1
    have z1 := HT.out.2.1
    have z2 := HT.out.1
    have hw : w.heap.size ≤ w2.heap.size := HB.out.size
    go_wp2_with (fail)
    go_loop [6, 21] (fun q i => ∃ j : Nat, j ≤ 28 ∧ q = .int .i64 (wantAt c j) ∧ i = .int .i64 j) (fun _ i => 28 - (intOf i).toNat)
    case atStart => exact ⟨0, by omega, rfl, rfl⟩
    case round =>
      obtain ⟨j, hj, rfl, rfl⟩ := hrel
      by_cases hlt : j < 28
      · have hy : marksAll[j]? = some (marksAll[j]'hlt) := List.getElem?_eq_getElem hlt
        have mj := HT.out.2.2.2 j _ hy
        have hst := wantAt_step c j _ hy
        have HST := Lib.hid hst
        clear hst hy
        generalize marksAll[j]'hlt = y at mj HST
        have hyl : (⟨y.toArray⟩ : ByteArray).toList = y := by rw [Lib.toList_data]
        have HYL := Lib.hid hyl; clear hyl
        generalize (⟨y.toArray⟩ : ByteArray) = Y at mj HYL
        rcases Bool.eq_false_or_eq_true (Y.toList == S.toList) with ht | ht
        · go_wp2_with (fail)
          go_round
          case rel =>
            rw [HYL.out, HSL.out] at ht
            exact ⟨j + 1, by omega, by rw [HST.out, if_pos ht], by go_num⟩
          case measure => simp [intOf]; omega
        · go_wp2_with (fail)
          go_round
          case rel =>
            rw [HYL.out, HSL.out] at ht
            exact ⟨j + 1, by omega, by rw [HST.out, if_neg (by rw [ht]; decide)], by go_num⟩
          case measure => simp [intOf]; omega
      · obtain rfl : j = 28 := by omega
        have hw4 : wantAt c 28 = 4 := by rw [wantAt_end, HSG.out]; rfl
        rw [hw4]
        go_wp2_with (fail)
        go_ret
        exact ⟨rfl, HB.out.alloc hw _⟩
  · go_enter Tryd.func5, Tryd.ntmps5
    go_wp2_with (fail)
    refine (head_any _).mono ?_; rintro e w1 ⟨rfl, hb1⟩
    have hcv := HCV.out w1
    go_wp2_with (fail)
    refine (HLX.out _).mono ?_; rintro e w2 ⟨g, cap, rfl, hb2, hg, hcap, t0, t1⟩
    have HB := Lib.hid ((hb1.alloc hb1.size (.cells #[.int .u8 x] 5)).trans (hb2.mono (by have := hb1.size; simp; omega)))
    have HT := Lib.hid (HTB.out.later HB.out)
    clear hb1 hb2 hcv
    have m1 := HT.out.2.2.1
    have z1 := HT.out.2.1
    have z2 := HT.out.1
    have hw : w.heap.size ≤ w2.heap.size := HB.out.size
    go_wp2_with (fail)
    go_loop [6, 21] (fun q i => ∃ j : Nat, j ≤ 28 ∧ q = .int .i64 (wantAt c j) ∧ i = .int .i64 j) (fun _ i => 28 - (intOf i).toNat)
    case atStart => exact ⟨0, by omega, rfl, rfl⟩
    case round =>
      obtain ⟨j, hj, rfl, rfl⟩ := hrel
      by_cases hlt : j < 28
      · have hy : marksAll[j]? = some (marksAll[j]'hlt) := List.getElem?_eq_getElem hlt
        have mj := HT.out.2.2.2 j _ hy
        have hst := wantAt_step c j _ hy
        have HST := Lib.hid hst
        clear hst hy
        generalize marksAll[j]'hlt = y at mj HST
        have hyl : (⟨y.toArray⟩ : ByteArray).toList = y := by rw [Lib.toList_data]
        have HYL := Lib.hid hyl; clear hyl
        generalize (⟨y.toArray⟩ : ByteArray) = Y at mj HYL
        rcases Bool.eq_false_or_eq_true (Y.toList == S.toList) with ht | ht
        · go_wp2_with (fail)
          go_round
          case rel =>
            rw [HYL.out, HSL.out] at ht
            exact ⟨j + 1, by omega, by rw [HST.out, if_pos ht], by go_num⟩
          case measure => simp [intOf]; omega
        · go_wp2_with (fail)
          go_round
          case rel =>
            rw [HYL.out, HSL.out] at ht
            exact ⟨j + 1, by omega, by rw [HST.out, if_neg (by rw [ht]; decide)], by go_num⟩
          case measure => simp [intOf]; omega
      · obtain rfl : j = 28 := by omega
        have hw4 : wantAt c 28 = 4 := by rw [wantAt_end, HSG.out]; rfl
        rw [hw4]
        go_wp2_with (fail)
        go_ret
        exact ⟨rfl, HB.out.alloc hw _⟩
  · go_enter Tryd.func5, Tryd.ntmps5
    go_wp2_with (fail)
    refine (head_any _).mono ?_; rintro e w1 ⟨rfl, hb1⟩
    have hcv := HCV.out w1
    go_wp2_with (fail)
    refine (HLX.out _).mono ?_; rintro e w2 ⟨g, cap, rfl, hb2, hg, hcap, t0, t1⟩
    have HB := Lib.hid ((hb1.alloc hb1.size (.cells #[.int .u8 x] 5)).trans (hb2.mono (by have := hb1.size; simp; omega)))
    have HT := Lib.hid (HTB.out.later HB.out)
    clear hb1 hb2 hcv
    have m1 := HT.out.2.2.1
    have z1 := HT.out.2.1
    have z2 := HT.out.1
    have hw : w.heap.size ≤ w2.heap.size := HB.out.size
    go_wp2_with (fail)
    go_loop [6, 21] (fun q i => ∃ j : Nat, j ≤ 28 ∧ q = .int .i64 (wantAt c j) ∧ i = .int .i64 j) (fun _ i => 28 - (intOf i).toNat)
    case atStart => exact ⟨0, by omega, rfl, rfl⟩
    case round =>
      obtain ⟨j, hj, rfl, rfl⟩ := hrel
      by_cases hlt : j < 28
      · have hy : marksAll[j]? = some (marksAll[j]'hlt) := List.getElem?_eq_getElem hlt
        have mj := HT.out.2.2.2 j _ hy
        have hst := wantAt_step c j _ hy
        have HST := Lib.hid hst
        clear hst hy
        generalize marksAll[j]'hlt = y at mj HST
        have hyl : (⟨y.toArray⟩ : ByteArray).toList = y := by rw [Lib.toList_data]
        have HYL := Lib.hid hyl; clear hyl
        generalize (⟨y.toArray⟩ : ByteArray) = Y at mj HYL
        rcases Bool.eq_false_or_eq_true (Y.toList == S.toList) with ht | ht
        · go_wp2_with (fail)
          go_round
          case rel =>
            rw [HYL.out, HSL.out] at ht
            exact ⟨j + 1, by omega, by rw [HST.out, if_pos ht], by go_num⟩
          case measure => simp [intOf]; omega
        · go_wp2_with (fail)
          go_round
          case rel =>
            rw [HYL.out, HSL.out] at ht
            exact ⟨j + 1, by omega, by rw [HST.out, if_neg (by rw [ht]; decide)], by go_num⟩
          case measure => simp [intOf]; omega
      · obtain rfl : j = 28 := by omega
        have hw4 : wantAt c 28 = 4 := by rw [wantAt_end, HSG.out]; rfl
        rw [hw4]
        go_wp2_with (fail)
        go_ret
        exact ⟨rfl, HB.out.alloc hw _⟩

set_option maxHeartbeats 2000000 in
theorem sign_core (c : UInt8) (x : Int) (S : ByteArray) (hS : S.size = 1) (hSl : S.toList = [c]) (b off cp : Nat)
    (hcv : ∀ w : World, (convert 45 9 (.slice (some ⟨w.heap.size, 0, none⟩) 1 1)).run Tryd.prog (w.alloc (.cells #[.int .u8 x] 5)) = .ok (.string S) (w.alloc (.cells #[.int .u8 x] 5)))
    (hlex : ∀ w, Calls Tryd.prog 9 #[.string S] w fun e w' => e = .returned (.tuple #[.slice none 0 0, .agg #[.int .i64 10, .int .i64 1, .int .i64 1]]) ∧ Below w.heap.size w w')
    (hs : singleB c = false)
    (b1 : (x == 32) = false) (b2 : (x == 9) = false) (b3 : (x == 10) = false) (b4 : (x == 13) = false) (b5 : (x == 95) = false)
    (hk : (x < 48) ∨ (57 < x ∧ x < 65) ∨ (90 < x ∧ x < 97) ∨ 122 < x) (w : World) (htab : Table w b off cp) :
    Calls Tryd.prog 5 #[.int .u8 x] w fun e w' => e = .returned (.bool true) ∧ Below w.heap.size w w' := by
  have HLX := Lib.hid hlex; have HCV := Lib.hid hcv; have HSL := Lib.hid hSl; have HTB := Lib.hid htab; have HSG := Lib.hid hs
  clear hlex hcv hSl htab hs
  rcases hk with h | ⟨h, h'⟩ | ⟨h, h'⟩ | h
  · go_enter Tryd.func5, Tryd.ntmps5
    go_wp2_with (fail)
    refine (head_any _).mono ?_; rintro e w1 ⟨rfl, hb1⟩
    have hcv := HCV.out w1
    go_wp2_with (fail)
    refine (HLX.out _).mono ?_; rintro e w2 ⟨rfl, hb2⟩
    have HB := Lib.hid ((hb1.alloc hb1.size (.cells #[.int .u8 x] 5)).trans (hb2.mono (by have := hb1.size; simp; omega)))
    have HT := Lib.hid (HTB.out.later HB.out)
    clear hb1 hb2 hcv
    have m1 := HT.out.2.2.1
    have z1 := HT.out.2.1
    have z2 := HT.out.1
    have hw : w.heap.size ≤ w2.heap.size := HB.out.size
    go_wp2_with (fail)
    go_loop [6, 21] (fun q i => ∃ j : Nat, j ≤ 28 ∧ q = .int .i64 (wantAt c j) ∧ i = .int .i64 j) (fun _ i => 28 - (intOf i).toNat)
    case atStart => exact ⟨0, by omega, rfl, rfl⟩
    case round =>
      obtain ⟨j, hj, rfl, rfl⟩ := hrel
      by_cases hlt : j < 28
      · have hy : marksAll[j]? = some (marksAll[j]'hlt) := List.getElem?_eq_getElem hlt
        have mj := HT.out.2.2.2 j _ hy
        have hst := wantAt_step c j _ hy
        have HST := Lib.hid hst
        clear hst hy
        generalize marksAll[j]'hlt = y at mj HST
        have hyl : (⟨y.toArray⟩ : ByteArray).toList = y := by rw [Lib.toList_data]
        have HYL := Lib.hid hyl; clear hyl
        generalize (⟨y.toArray⟩ : ByteArray) = Y at mj HYL
        rcases Bool.eq_false_or_eq_true (Y.toList == S.toList) with ht | ht
        · go_wp2_with (fail)
          go_round
          case rel =>
            rw [HYL.out, HSL.out] at ht
            exact ⟨j + 1, by omega, by rw [HST.out, if_pos ht], by go_num⟩
          case measure => simp [intOf]; omega
        · go_wp2_with (fail)
          go_round
          case rel =>
            rw [HYL.out, HSL.out] at ht
            exact ⟨j + 1, by omega, by rw [HST.out, if_neg (by rw [ht]; decide)], by go_num⟩
          case measure => simp [intOf]; omega
      · obtain rfl : j = 28 := by omega
        have hw4 : wantAt c 28 = 0 := by rw [wantAt_end, HSG.out]; rfl
        rw [hw4]
        go_wp2_with (fail)
        go_ret
        exact ⟨rfl, HB.out.alloc hw _⟩
  · go_enter Tryd.func5, Tryd.ntmps5
    go_wp2_with (fail)
    refine (head_any _).mono ?_; rintro e w1 ⟨rfl, hb1⟩
    have hcv := HCV.out w1
    go_wp2_with (fail)
    refine (HLX.out _).mono ?_; rintro e w2 ⟨rfl, hb2⟩
    have HB := Lib.hid ((hb1.alloc hb1.size (.cells #[.int .u8 x] 5)).trans (hb2.mono (by have := hb1.size; simp; omega)))
    have HT := Lib.hid (HTB.out.later HB.out)
    clear hb1 hb2 hcv
    have m1 := HT.out.2.2.1
    have z1 := HT.out.2.1
    have z2 := HT.out.1
    have hw : w.heap.size ≤ w2.heap.size := HB.out.size
    go_wp2_with (fail)
    go_loop [6, 21] (fun q i => ∃ j : Nat, j ≤ 28 ∧ q = .int .i64 (wantAt c j) ∧ i = .int .i64 j) (fun _ i => 28 - (intOf i).toNat)
    case atStart => exact ⟨0, by omega, rfl, rfl⟩
    case round =>
      obtain ⟨j, hj, rfl, rfl⟩ := hrel
      by_cases hlt : j < 28
      · have hy : marksAll[j]? = some (marksAll[j]'hlt) := List.getElem?_eq_getElem hlt
        have mj := HT.out.2.2.2 j _ hy
        have hst := wantAt_step c j _ hy
        have HST := Lib.hid hst
        clear hst hy
        generalize marksAll[j]'hlt = y at mj HST
        have hyl : (⟨y.toArray⟩ : ByteArray).toList = y := by rw [Lib.toList_data]
        have HYL := Lib.hid hyl; clear hyl
        generalize (⟨y.toArray⟩ : ByteArray) = Y at mj HYL
        rcases Bool.eq_false_or_eq_true (Y.toList == S.toList) with ht | ht
        · go_wp2_with (fail)
          go_round
          case rel =>
            rw [HYL.out, HSL.out] at ht
            exact ⟨j + 1, by omega, by rw [HST.out, if_pos ht], by go_num⟩
          case measure => simp [intOf]; omega
        · go_wp2_with (fail)
          go_round
          case rel =>
            rw [HYL.out, HSL.out] at ht
            exact ⟨j + 1, by omega, by rw [HST.out, if_neg (by rw [ht]; decide)], by go_num⟩
          case measure => simp [intOf]; omega
      · obtain rfl : j = 28 := by omega
        have hw4 : wantAt c 28 = 0 := by rw [wantAt_end, HSG.out]; rfl
        rw [hw4]
        go_wp2_with (fail)
        go_ret
        exact ⟨rfl, HB.out.alloc hw _⟩
  · go_enter Tryd.func5, Tryd.ntmps5
    go_wp2_with (fail)
    refine (head_any _).mono ?_; rintro e w1 ⟨rfl, hb1⟩
    have hcv := HCV.out w1
    go_wp2_with (fail)
    refine (HLX.out _).mono ?_; rintro e w2 ⟨rfl, hb2⟩
    have HB := Lib.hid ((hb1.alloc hb1.size (.cells #[.int .u8 x] 5)).trans (hb2.mono (by have := hb1.size; simp; omega)))
    have HT := Lib.hid (HTB.out.later HB.out)
    clear hb1 hb2 hcv
    have m1 := HT.out.2.2.1
    have z1 := HT.out.2.1
    have z2 := HT.out.1
    have hw : w.heap.size ≤ w2.heap.size := HB.out.size
    go_wp2_with (fail)
    go_loop [6, 21] (fun q i => ∃ j : Nat, j ≤ 28 ∧ q = .int .i64 (wantAt c j) ∧ i = .int .i64 j) (fun _ i => 28 - (intOf i).toNat)
    case atStart => exact ⟨0, by omega, rfl, rfl⟩
    case round =>
      obtain ⟨j, hj, rfl, rfl⟩ := hrel
      by_cases hlt : j < 28
      · have hy : marksAll[j]? = some (marksAll[j]'hlt) := List.getElem?_eq_getElem hlt
        have mj := HT.out.2.2.2 j _ hy
        have hst := wantAt_step c j _ hy
        have HST := Lib.hid hst
        clear hst hy
        generalize marksAll[j]'hlt = y at mj HST
        have hyl : (⟨y.toArray⟩ : ByteArray).toList = y := by rw [Lib.toList_data]
        have HYL := Lib.hid hyl; clear hyl
        generalize (⟨y.toArray⟩ : ByteArray) = Y at mj HYL
        rcases Bool.eq_false_or_eq_true (Y.toList == S.toList) with ht | ht
        · go_wp2_with (fail)
          go_round
          case rel =>
            rw [HYL.out, HSL.out] at ht
            exact ⟨j + 1, by omega, by rw [HST.out, if_pos ht], by go_num⟩
          case measure => simp [intOf]; omega
        · go_wp2_with (fail)
          go_round
          case rel =>
            rw [HYL.out, HSL.out] at ht
            exact ⟨j + 1, by omega, by rw [HST.out, if_neg (by rw [ht]; decide)], by go_num⟩
          case measure => simp [intOf]; omega
      · obtain rfl : j = 28 := by omega
        have hw4 : wantAt c 28 = 0 := by rw [wantAt_end, HSG.out]; rfl
        rw [hw4]
        go_wp2_with (fail)
        go_ret
        exact ⟨rfl, HB.out.alloc hw _⟩
  · go_enter Tryd.func5, Tryd.ntmps5
    go_wp2_with (fail)
    refine (head_any _).mono ?_; rintro e w1 ⟨rfl, hb1⟩
    have hcv := HCV.out w1
    go_wp2_with (fail)
    refine (HLX.out _).mono ?_; rintro e w2 ⟨rfl, hb2⟩
    have HB := Lib.hid ((hb1.alloc hb1.size (.cells #[.int .u8 x] 5)).trans (hb2.mono (by have := hb1.size; simp; omega)))
    have HT := Lib.hid (HTB.out.later HB.out)
    clear hb1 hb2 hcv
    have m1 := HT.out.2.2.1
    have z1 := HT.out.2.1
    have z2 := HT.out.1
    have hw : w.heap.size ≤ w2.heap.size := HB.out.size
    go_wp2_with (fail)
    go_loop [6, 21] (fun q i => ∃ j : Nat, j ≤ 28 ∧ q = .int .i64 (wantAt c j) ∧ i = .int .i64 j) (fun _ i => 28 - (intOf i).toNat)
    case atStart => exact ⟨0, by omega, rfl, rfl⟩
    case round =>
      obtain ⟨j, hj, rfl, rfl⟩ := hrel
      by_cases hlt : j < 28
      · have hy : marksAll[j]? = some (marksAll[j]'hlt) := List.getElem?_eq_getElem hlt
        have mj := HT.out.2.2.2 j _ hy
        have hst := wantAt_step c j _ hy
        have HST := Lib.hid hst
        clear hst hy
        generalize marksAll[j]'hlt = y at mj HST
        have hyl : (⟨y.toArray⟩ : ByteArray).toList = y := by rw [Lib.toList_data]
        have HYL := Lib.hid hyl; clear hyl
        generalize (⟨y.toArray⟩ : ByteArray) = Y at mj HYL
        rcases Bool.eq_false_or_eq_true (Y.toList == S.toList) with ht | ht
        · go_wp2_with (fail)
          go_round
          case rel =>
            rw [HYL.out, HSL.out] at ht
            exact ⟨j + 1, by omega, by rw [HST.out, if_pos ht], by go_num⟩
          case measure => simp [intOf]; omega
        · go_wp2_with (fail)
          go_round
          case rel =>
            rw [HYL.out, HSL.out] at ht
            exact ⟨j + 1, by omega, by rw [HST.out, if_neg (by rw [ht]; decide)], by go_num⟩
          case measure => simp [intOf]; omega
      · obtain rfl : j = 28 := by omega
        have hw4 : wantAt c 28 = 0 := by rw [wantAt_end, HSG.out]; rfl
        rw [hw4]
        go_wp2_with (fail)
        go_ret
        exact ⟨rfl, HB.out.alloc hw _⟩
end Go.Proofs.YtjpejdjiecfbnabDoor.lexBytes
