/-
  LexNumbers: the walk.
-/
import Derived.Test.YteapdemofkmonaaDoorFmtU
import Derived.Test.YteapdemofkmonaaDoorNumMath
import Derived.Deep.Cut
namespace Go.Proofs.YteapdemofkmonaaDoor
open Go.ChangeShapes Go.WideShapes Go.ChangeAt Go.RowKit
set_option linter.unusedVariables false

theorem cat_lists (a b : List UInt8) : (⟨a.toArray⟩ : ByteArray) ++ ⟨b.toArray⟩ = ⟨(a ++ b).toArray⟩ := by ext1; simp [ByteArray.data_append]
theorem size_list (l : List UInt8) : (⟨l.toArray⟩ : ByteArray).size = l.length := by simp [ByteArray.size]
theorem list_of (l : List UInt8) : (⟨l.toArray⟩ : ByteArray).data.toList = l := rfl
theorem three' {w : World} {b : Nat} {c0 c1 c2 : Value} {t : TypeId} (h : w.heap[b]? = some (.cells #[c0, c1, c2] t (0, 0))) :
    (w.cell? ⟨b, 0, none⟩ = some c0 ∧ w.cell? ⟨b, 1, none⟩ = some c1 ∧ w.cell? ⟨b, 2, none⟩ = some c2) ∧ w.frozen? ⟨b, 0, none⟩ = false ∧ w.frozen? ⟨b, 1, none⟩ = false ∧ w.frozen? ⟨b, 2, none⟩ = false := by
  refine ⟨⟨?_, ?_, ?_⟩, Lib.frozen_of_heap h 0, Lib.frozen_of_heap h 1, Lib.frozen_of_heap h 2⟩ <;> (rw [Lib.cell_of_heap h]; rfl)
def numT (n i : Nat) : List UInt8 := List.replicate i 48 ++ Lib.decDigits n
theorem numT_dig (n i : Nat) : ∀ c ∈ numT n i, Dig c := by
  intro c hc
  rcases List.mem_append.1 hc with h | h
  · exact dig_nought c h
  · exact (dval_dec n n (Nat.le_refl _) 0).1 c h
theorem numT_val (n i : Nat) : dval 0 (numT n i) = (n : Int) := by
  unfold numT
  rw [dval_append, dval_noughts, Int.zero_mul, (dval_dec n n (Nat.le_refl _) 0).2]
theorem numT_len (n i : Nat) (hn : n < 18446744073709551616) : (numT n i).length ≤ i + 20 := by
  unfold numT
  rw [List.length_append, List.length_replicate, Lib.decDigits_length]
  have := Lib.nDigits_le20 n hn
  omega
theorem numT_ne (n i : Nat) : numT n i ≠ [] := by
  intro h
  have := congrArg List.length h
  unfold numT at this
  rw [List.length_append, List.length_replicate, Lib.decDigits_length] at this
  have := Lib.nDigits_pos n
  simp at *
  omega
theorem lex1 (n i : Nat) (h : n ≤ 9223372036854775807) : lexL (32 :: numT n i) = .ok [⟨2, numT n i, (n : Int), 1, 2⟩, ⟨0, [], 0, 1, 2 + ((numT n i).length : Int)⟩] := by
  rw [lexL_blank _ (numT_ne n i) (numT_dig n i), numT_val, if_pos (by omega)]
theorem lex1e (n i : Nat) (h : ¬ n ≤ 9223372036854775807) : lexL (32 :: numT n i) = .error (11, 1, 2) := by
  rw [lexL_blank _ (numT_ne n i) (numT_dig n i), numT_val, if_neg (by omega)]
theorem dig2 (n i : Nat) : ∀ c ∈ numT n i ++ List.replicate 19 (48 : UInt8), Dig c := by
  intro c hc
  rcases List.mem_append.1 hc with h | h
  · exact numT_dig n i c h
  · exact dig_nought c h
theorem lex2 (n i : Nat) : lexL (numT n i ++ List.replicate 19 48) = if n = 0 then .ok [⟨2, numT n i ++ List.replicate 19 48, 0, 1, 1⟩, ⟨0, [], 0, 1, 1 + ((numT n i ++ List.replicate 19 (48 : UInt8)).length : Int)⟩] else .error (11, 1, 1) := by
  rw [lexL_digits _ (by simp) (dig2 n i), dval_append, numT_val, dval_noughts]
  by_cases h : n = 0
  · subst h
    rw [if_pos rfl, if_pos (by decide)]
    rfl
  · rw [if_neg h, if_neg]
    have : (10 : Int) ^ 19 = 10000000000000000000 := by decide
    rw [this]
    omega
set_option maxHeartbeats 4000000 in
set_option maxRecDepth 100000 in
theorem numbers_core (n : Nat) (hn : n < 18446744073709551616) (b0 : Int) (k : Nat) (hk : k < 16) (hb : bits .and .i64 b0 15 = (k : Int)) (w : World) (htab : Lib.TabIs Tryd.prog w "internal/strconv.uint64pow10" .u64 Lib.pow10Tab) :
    Calls Tryd.prog 4 #[.int .u64 n, .int .i64 b0] w fun e w' => e = .returned (.bool true) ∧ Below w.heap.size w w' := by
  have HB := Lib.hid hb
  clear hb
  go_enter Tryd.func4, Tryd.ntmps4
  go_wp2_with (fail)
  refine (head_any _).mono ?_
  rintro e w1 ⟨rfl, hb1⟩
  have HB1 := Lib.hid hb1
  have HT := Lib.hid (Lib.tabBelow_of_tabIs htab w1 hb1)
  clear hb1 htab
  go_wp2_with (fail)
  refine (formatUint_any n hn w1 HT.out).mono ?_
  rintro e w2 ⟨rfl, hb2⟩
  have HB2 := Lib.hid (HB1.out.trans (Below.mono hb2 HB1.out.size))
  clear hb2 HT HB1
  have hx0 : numT n 0 = Lib.decDigits n := rfl
  rw [← hx0]
  clear hx0
  go_wp2_with (fail)
  go_loopw [5, 6] (fun x i wr => ∃ j : Nat, j ≤ k ∧ i = .int .i64 j ∧ x = .string ⟨(numT n j).toArray⟩ ∧ wr = w2) (fun _ i _ => k - (intOf i).toNat)
  case atStart => exact ⟨0, Nat.zero_le _, rfl, rfl, rfl⟩
  case round =>
    obtain ⟨j, hj, rfl, rfl, rfl⟩ := hrel
    have hx1 := numT_len n j hn
    rw [← size_list] at hx1
    by_cases hlt : j < k
    · have q0 : decide ((j : Int) < bits .and .i64 b0 15) = true := by rw [HB.out]; simp; omega
      have HX := Lib.hid (show (⟨#[48]⟩ : ByteArray) ++ ⟨(numT n j).toArray⟩ = ⟨(numT n (j + 1)).toArray⟩ by rw [show (⟨#[48]⟩ : ByteArray) = ⟨[(48 : UInt8)].toArray⟩ from rfl, cat_lists]; rfl)
      generalize (⟨(numT n j).toArray⟩ : ByteArray) = X at hx1 HX
      have hXs : X.size ≤ 40 := by omega
      clear hx1
      go_wp2_with (fail)
      go_roundw
      case rel => exact ⟨j + 1, by omega, by simp, by rw [HX.out], by first | rfl | trivial⟩
      case measure => simp [intOf]; omega
    · obtain rfl : j = k := by omega
      have q0 : decide ((j : Int) < bits .and .i64 b0 15) = false := by rw [HB.out]; simp
      have HX := Lib.hid (show (⟨#[32]⟩ : ByteArray) ++ ⟨(numT n j).toArray⟩ = ⟨(32 :: numT n j).toArray⟩ by rw [show (⟨#[32]⟩ : ByteArray) = ⟨[(32 : UInt8)].toArray⟩ from rfl, cat_lists]; rfl)
      have HY := Lib.hid (show (⟨(numT n j).toArray⟩ : ByteArray) ++ ⟨#[48, 48, 48, 48, 48, 48, 48, 48, 48, 48, 48, 48, 48, 48, 48, 48, 48, 48, 48]⟩ = ⟨(numT n j ++ List.replicate 19 48).toArray⟩ by rw [show (⟨#[48, 48, 48, 48, 48, 48, 48, 48, 48, 48, 48, 48, 48, 48, 48, 48, 48, 48, 48]⟩ : ByteArray) = ⟨(List.replicate 19 (48 : UInt8)).toArray⟩ from rfl, cat_lists])
      have HS := Lib.hid (numT_len n j hn)
      by_cases hbig : n ≤ 9223372036854775807
      · have HL1 := Lib.hid (lex1 n j hbig)
        have q1 : decide ((9223372036854775807 : Int) < n) = false := by simp; omega
        obtain ⟨X, hX⟩ : ∃ X : ByteArray, X = ⟨(numT n j).toArray⟩ := ⟨_, rfl⟩
        rw [← hX] at HX HY hx1 ⊢
        have hXs : X.size ≤ 40 := by omega
        have HXD := Lib.hid hX
        clear hx1 q0 hX
        have q0 : decide ((j : Int) < bits .and .i64 b0 15) = false := by rw [HB.out]; simp
        go_wp2_with (fail)
        rw [HX.out]
        refine (all_ok ⟨(32 :: numT n j).toArray⟩ (by rw [size_list, List.length_cons]; have := HS.out; omega) _ (by rw [list_of]; exact HL1.out) (by simp) _).mono ?_
        rintro e w3 ⟨g, cap, rfl, hb3, hg1, hg2, hcap, hc⟩
        obtain ⟨_, c1, c2, _, _⟩ := hc 0 _ rfl
        simp only [Nat.mul_zero, Nat.zero_add, List.length_cons, List.length_nil, Nat.reduceAdd] at *
        have HB3 := Lib.hid (HB2.out.trans (Below.mono hb3 HB2.out.size))
        clear hc hb3 HB2 hcap hg1
        go_upto_region 11 with (fail)
        have hbf : (w3.alloc (.cells #[.int .i64 0, .int .i64 0, .int .i64 0] 38)).heap[w3.heap.size]? = some (.cells #[.int .i64 0, .int .i64 0, .int .i64 0] 38 (0, 0)) := heap_alloc_new _ _
        have hk1 : (w3.alloc (.cells #[.int .i64 0, .int .i64 0, .int .i64 0] 38)).heap[g]? = w3.heap[g]? := Below.heap_alloc _ _ _ hg2
        have hz : (w3.alloc (.cells #[.int .i64 0, .int .i64 0, .int .i64 0] 38)).heap.size = w3.heap.size + 1 := by simp
        have c1' := (World.cell?_of_block (a := ⟨g, 1, none⟩) hk1).trans c1
        have c2' := (World.cell?_of_block (a := ⟨g, 2, none⟩) hk1).trans c2
        have HB4 := Lib.hid (HB3.out.trans ((Below.refl w.heap.size w3).alloc (by have := HB3.out.size; omega) (.cells #[.int .i64 0, .int .i64 0, .int .i64 0] 38)))
        rw [← HXD.out] at c1'
        clear c1 c2 hk1 HB3
        generalize (w3.alloc (.cells #[.int .i64 0, .int .i64 0, .int .i64 0] 38)) = W4 at *
        have hf4 : w3.heap.size < W4.heap.size := by omega
        have hg4 : g < W4.heap.size := by omega
        generalize w3.heap.size = f4 at *
        clear hz hg2
        go_wp2_with (fail)
        rw [HY.out]
        have hw : IntKind.i64.wrap (n : Int) = n := by rw [IntKind.wrap_i64]; omega
        have hsz : (⟨(numT n j ++ List.replicate 19 (48 : UInt8)).toArray⟩ : ByteArray).size ≤ 65536 := by rw [size_list, List.length_append, List.length_replicate]; have := HS.out; omega
        by_cases h0 : n = 0
        · have hl2 := lex2 n j
          rw [if_pos h0] at hl2
          refine (all_ok _ hsz _ (by rw [list_of]; exact hl2) (by simp) _).mono ?_
          rintro e w5 ⟨g5, cap5, rfl, hb5, _, _, _, _⟩
          have hbf5 := (hb5.block f4 hf4).trans hbf
          have d1 := (World.cell?_of_block (a := ⟨g, 1, none⟩) (hb5.block g hg4)).trans c1'
          have d2 := (World.cell?_of_block (a := ⟨g, 2, none⟩) (hb5.block g hg4)).trans c2'
          have HB5 := Lib.hid (HB4.out.trans (Below.mono hb5 HB4.out.size))
          clear hl2 hb5 c1' c2' hbf HL1
          simp only [List.length_cons, List.length_nil, Nat.zero_add, Nat.reduceAdd]
          subst h0
          go_upto_region 12 with (fail)
          have hlt5 := (Array.getElem?_eq_some_iff.1 hbf5).1
          have hlg5 : g < w5.heap.size := by have := World.block_lt_of_cell? _ _ d1; exact this
          have hbo : (w5.alloc (.cells #[.int .i64 0, .int .i64 0, .int .i64 0] 38)).heap[w5.heap.size]? = some (.cells #[.int .i64 0, .int .i64 0, .int .i64 0] 38 (0, 0)) := heap_alloc_new _ _
          have hbf6 : (w5.alloc (.cells #[.int .i64 0, .int .i64 0, .int .i64 0] 38)).heap[f4]? = _ := (Below.heap_alloc _ _ _ hlt5).trans hbf5
          have e1 := (World.cell?_of_block (a := ⟨g, 1, none⟩) (Below.heap_alloc w5 (.cells #[.int .i64 0, .int .i64 0, .int .i64 0] 38) g hlg5)).trans d1
          have e2 := (World.cell?_of_block (a := ⟨g, 2, none⟩) (Below.heap_alloc w5 (.cells #[.int .i64 0, .int .i64 0, .int .i64 0] 38) g hlg5)).trans d2
          have HB6 := Lib.hid (HB5.out.alloc (by have := HB5.out.size; omega) (.cells #[.int .i64 0, .int .i64 0, .int .i64 0] 38))
          clear d1 d2 hbf5 hlt5 hlg5 HB5
          generalize (w5.alloc (.cells #[.int .i64 0, .int .i64 0, .int .i64 0] 38)) = W6 at *
          generalize w5.heap.size = f5 at *
          obtain ⟨⟨r0, r1, r2⟩, _, _, _⟩ := three' hbf6
          obtain ⟨⟨s0, s1, s2⟩, _, _, _⟩ := three' hbo
          clear hbf6 hbo
          go_wp2_with (fail)
          go_ret
          exact ⟨rfl, HB6.out⟩
        · have hl2 := lex2 n j
          rw [if_neg h0] at hl2
          refine (all_bad _ hsz _ _ _ (by rw [list_of]; exact hl2) _).mono ?_
          rintro e w5 ⟨rfl, hb5⟩
          have hbf5 := (hb5.block f4 hf4).trans hbf
          have d1 := (World.cell?_of_block (a := ⟨g, 1, none⟩) (hb5.block g hg4)).trans c1'
          have d2 := (World.cell?_of_block (a := ⟨g, 2, none⟩) (hb5.block g hg4)).trans c2'
          have HB5 := Lib.hid (HB4.out.trans (Below.mono hb5 HB4.out.size))
          clear hl2 hb5 c1' c2' hbf HL1
          have q5 : ((n : Int) == 0) = false := by simp; omega
          have q6 : decide ((n : Int) = 0) = false := by simp; omega
          go_upto_region 12 with (fail)
          have hlt5 := (Array.getElem?_eq_some_iff.1 hbf5).1
          have hlg5 : g < w5.heap.size := by have := World.block_lt_of_cell? _ _ d1; exact this
          have hbo : (w5.alloc (.cells #[.int .i64 11, .int .i64 1, .int .i64 1] 38)).heap[w5.heap.size]? = some (.cells #[.int .i64 11, .int .i64 1, .int .i64 1] 38 (0, 0)) := heap_alloc_new _ _
          have hbf6 : (w5.alloc (.cells #[.int .i64 11, .int .i64 1, .int .i64 1] 38)).heap[f4]? = _ := (Below.heap_alloc _ _ _ hlt5).trans hbf5
          have e1 := (World.cell?_of_block (a := ⟨g, 1, none⟩) (Below.heap_alloc w5 (.cells #[.int .i64 11, .int .i64 1, .int .i64 1] 38) g hlg5)).trans d1
          have e2 := (World.cell?_of_block (a := ⟨g, 2, none⟩) (Below.heap_alloc w5 (.cells #[.int .i64 11, .int .i64 1, .int .i64 1] 38) g hlg5)).trans d2
          have HB6 := Lib.hid (HB5.out.alloc (by have := HB5.out.size; omega) (.cells #[.int .i64 11, .int .i64 1, .int .i64 1] 38))
          clear d1 d2 hbf5 hlt5 hlg5 HB5
          generalize (w5.alloc (.cells #[.int .i64 11, .int .i64 1, .int .i64 1] 38)) = W6 at *
          generalize w5.heap.size = f5 at *
          obtain ⟨⟨r0, r1, r2⟩, _, _, _⟩ := three' hbf6
          obtain ⟨⟨s0, s1, s2⟩, _, _, _⟩ := three' hbo
          clear hbf6 hbo
          go_wp2_with (fail)
          go_ret
          exact ⟨rfl, HB6.out⟩
      · have HL1 := Lib.hid (lex1e n j hbig)
        have q1 : decide ((9223372036854775807 : Int) < n) = true := by simp; omega
        obtain ⟨X, hX⟩ : ∃ X : ByteArray, X = ⟨(numT n j).toArray⟩ := ⟨_, rfl⟩
        rw [← hX] at HX HY hx1 ⊢
        have hXs : X.size ≤ 40 := by omega
        have HXD := Lib.hid hX
        clear hx1 q0 hX
        have q0 : decide ((j : Int) < bits .and .i64 b0 15) = false := by rw [HB.out]; simp
        go_wp2_with (fail)
        rw [HX.out]
        refine (all_bad ⟨(32 :: numT n j).toArray⟩ (by rw [size_list, List.length_cons]; have := HS.out; omega) _ _ _ (by rw [list_of]; exact HL1.out) _).mono ?_
        rintro e w3 ⟨rfl, hb3⟩
        have HB3 := Lib.hid (HB2.out.trans (Below.mono hb3 HB2.out.size))
        clear hb3 HB2
        go_wp2_with (fail)
        go_ret
        exact ⟨rfl, by first | exact HB3.out | exact HB3.out.alloc (by have := HB3.out.size; omega) _⟩
end Go.Proofs.YteapdemofkmonaaDoor
