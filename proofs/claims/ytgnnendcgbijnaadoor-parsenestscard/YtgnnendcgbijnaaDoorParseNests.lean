/-
  ParseNests: for every two numbers the law returns true, and its arguments read as before. The package-level tables are as the program's text lays them (the card ties them).
-/
import Derived.Test.YtgnnendcgbijnaaDoorTie
import Derived.Test.YtgnnendcgbijnaaDoorCards
import Derived.Test.YtgnnendcgbijnaaDoorNestB
import Derived.ProofKit
import Derived.LaidMore
import Derived.OpenShut
import Derived.ShutString
import Derived.SliceStrings
import Derived.Stop.Joined
import Derived.SevenTiedAt
namespace Go.Proofs.YtgnnendcgbijnaaDoor.parseNests
open Go.ChangeShapes Go.WideShapes Go.ChangeAt Go.WideMaps Go.WideElems Go.RowKit
open Go.ChangeMaps (open_string shut_string)
set_option linter.unusedVariables false

def openCells : Array Value := #[.string ⟨#[40]⟩, .string ⟨#[45]⟩, .string ⟨#[33]⟩, .string ⟨#[105, 102, 32, 97, 32, 123]⟩, .string ⟨#[119, 104, 105, 108, 101, 32, 97, 32, 123]⟩]
def shutCells : Array Value := #[.string ⟨#[41]⟩, .string ⟨#[]⟩, .string ⟨#[]⟩, .string ⟨#[125]⟩, .string ⟨#[125]⟩]
theorem nestCells_at : ∀ k, k < 5 → openCells[k]? = some (.string ⟨(openL k).toArray⟩) ∧ shutCells[k]? = some (.string ⟨(shutL k).toArray⟩) ∧ (openL k).length ≤ 9 ∧ (shutL k).length ≤ 1 := by
  intro k hk
  have : k = 0 ∨ k = 1 ∨ k = 2 ∨ k = 3 ∨ k = 4 := by omega
  rcases this with rfl | rfl | rfl | rfl | rfl <;> exact ⟨rfl, rfl, by decide, by decide⟩
theorem fns_none {w : World} {S : Nat → Prop} {v : Value} (h : FnsAt w S [] v) : ∃ a c, v = .slice a 0 c := by
  rcases h with ⟨_, a, cap, rfl⟩ | ⟨h, _⟩
  · exact ⟨_, _, rfl⟩
  · exact absurd rfl h
theorem cat_lists (x y : List UInt8) : (⟨x.toArray⟩ : ByteArray) ++ ⟨y.toArray⟩ = ⟨(x ++ y).toArray⟩ := by
  apply ByteArray.ext
  rw [ByteArray.data_append]
  apply Array.toList_inj.1
  simp
theorem size_list (x : List UInt8) : (⟨x.toArray⟩ : ByteArray).size = x.length := by simp [ByteArray.size]
set_option maxHeartbeats 4000000 in
set_option maxRecDepth 100000 in
theorem nests_core (a b : Int) (k n : Nat) (hk : k < 5) (hn : n < 256) (hka : wrap64 ((IntKind.u64.wrap a).tmod 5) = (k : Int)) (hpb : bits .and .i64 b 255 = (n : Int)) (w : World) (hg : Ground w) :
    Calls Tryd.prog 4 #[.int .i64 a, .int .i64 b] w fun e w' => e = .returned (.bool true) ∧ Below w.heap.size w w' := by
  have HG := Lib.hid hg; have HPB := Lib.hid hpb; have HKA := Lib.hid hka
  clear hg hka
  go_enter Tryd.func4, Tryd.ntmps4
  go_wp2_with (fail)
  refine (head_any _ HG.out).mono ?_
  rintro e w1 ⟨rfl, hg1⟩
  have HG1 := Lib.hid hg1
  clear hg1
  go_upto_region 6 with (fail)
  clear hpb
  change Code.wp _ _ _ _ ((w1.alloc (.cells openCells 9)).alloc (.cells shutCells 9))
  obtain ⟨w2, hw2⟩ : ∃ w2, w2 = (w1.alloc (.cells openCells 9)).alloc (.cells shutCells 9) := ⟨_, rfl⟩
  rw [← hw2]
  obtain ⟨i1, i2, i3, i4⟩ := nestCells_at k hk
  have c0 : w2.cell? ⟨w1.heap.size, k, none⟩ = some (.string ⟨(openL k).toArray⟩) := by
    rw [Lib.cell_of_heap (show w2.heap[w1.heap.size]? = some (.cells openCells 9 (0, 0)) by rw [hw2]; exact alloc_past _ _ _ _ (by simp) (alloc_at _ _ _ rfl))]; exact i1
  have c1 : w2.cell? ⟨w1.heap.size + 1, k, none⟩ = some (.string ⟨(shutL k).toArray⟩) := by
    rw [Lib.cell_of_heap (show w2.heap[w1.heap.size + 1]? = some (.cells shutCells 9 (0, 0)) by rw [hw2]; exact alloc_at _ _ _ (by simp))]; exact i2
  have hlt : w1.heap.size < w2.heap.size := by rw [hw2]; simp only [World.size_alloc]; omega
  have hlt' : w1.heap.size + 1 < w2.heap.size := by rw [hw2]; simp only [World.size_alloc]; omega
  have HG2 := Lib.hid (grown_trans HG1.out (show w1.grownBy w2 none by rw [hw2]; exact grown_trans (grown_alloc _ _) (grown_alloc _ _)))
  clear i1 i2 hw2
  have hO := size_list (openL k); have hC := size_list (shutL k)
  generalize hO1 : (⟨(openL k).toArray⟩ : ByteArray) = O at c0 hO
  generalize hC1 : (⟨(shutL k).toArray⟩ : ByteArray) = C at c1 hC
  have HO := Lib.hid hO1; have HC := Lib.hid hC1
  have hOs : O.size ≤ 9 := by omega
  have hCs : C.size ≤ 1 := by omega
  clear hO hC hO1 hC1
  go_upto_region 10 with (fail)
  rw [HKA.out]
  go_loop [8, 9, 10] (fun x y i => ∃ j : Nat, j ≤ n ∧ i = .int .i64 j ∧ x = .string ⟨(rep j (openL k)).toArray⟩ ∧ y = .string ⟨(rep j (shutL k)).toArray⟩) (fun _ _ i => n - (intOf i).toNat)
  case atStart => exact ⟨0, Nat.zero_le _, rfl, rfl, rfl⟩
  case round =>
    obtain ⟨j, hj, rfl, rfl, rfl⟩ := hrel
    have hx1 : (rep j (openL k)).length ≤ 9 * j := by rw [rep_length, Nat.mul_comm]; exact Nat.mul_le_mul_right _ i3
    have hy1 : (rep j (shutL k)).length ≤ j := by rw [rep_length]; exact Nat.le_trans (Nat.mul_le_mul_left _ i4) (by omega)
    rw [← size_list] at hx1 hy1
    by_cases hlt2 : j < n
    · have HX := Lib.hid (cat_lists (rep j (openL k)) (openL k)); have HY := Lib.hid (cat_lists (rep j (shutL k)) (shutL k))
      rw [HO.out, ← rep_snoc] at HX
      rw [HC.out, ← rep_snoc] at HY
      generalize (⟨(rep j (openL k)).toArray⟩ : ByteArray) = X at hx1 HX
      generalize (⟨(rep j (shutL k)).toArray⟩ : ByteArray) = Y at hy1 HY
      have hXs : X.size ≤ 3000 := by omega
      have hYs : Y.size ≤ 300 := by omega
      clear hx1 hy1
      go_wp2_with (fail)
      go_round
      case rel => exact ⟨j + 1, by omega, by go_num, by rw [HX.out], by rw [HY.out]⟩
      case measure => simp [intOf]; omega
    · obtain rfl : n = j := by omega
      clear hlt2
      generalize hX1 : (⟨(rep n (openL k)).toArray⟩ : ByteArray) = X at hx1
      generalize hY1 : (⟨(rep n (shutL k)).toArray⟩ : ByteArray) = Y at hy1
      have hXs : X.size ≤ 3000 := by omega
      have hYs : Y.size ≤ 300 := by omega
      have HX := Lib.hid hX1; have HY := Lib.hid hY1
      clear hx1 hy1 hX1 hY1
      by_cases h3 : k < 3
      · have d3 : decide (3 ≤ (k : Int)) = false := by simp; omega
        have d3' : decide (3 ≤ k) = false := by simpa using h3
        have htext : ((⟨#[102, 117, 110, 99, 32, 102, 40, 41, 32, 123, 32, 114, 101, 116, 117, 114, 110, 32]⟩ : ByteArray) ++ X ++ ⟨#[49]⟩ ++ Y ++ ⟨#[59, 32, 125]⟩).data.toList = nestText k n := by
          rw [nestText, if_pos h3, ← HX.out, ← HY.out]
          simp [ByteArray.data_append, retPre, retEnd, List.append_assoc]
        have HT := Lib.hid htext
        have HD := Lib.hid (show nestDeep k n = 2 + n by rw [nestDeep, if_pos h3])
        clear htext
        go_wp2_with (fail)
        refine (Program_any _ (by rw [ByteArray.size_append, ByteArray.size_append, ByteArray.size_append, ByteArray.size_append]; have q1 : (⟨#[102, 117, 110, 99, 32, 102, 40, 41, 32, 123, 32, 114, 101, 116, 117, 114, 110, 32]⟩ : ByteArray).size = 18 := rfl; have q2 : (⟨#[49]⟩ : ByteArray).size = 1 := rfl; have q3 : (⟨#[59, 32, 125]⟩ : ByteArray).size = 3 := rfl; omega) _ (HG.out.more HG2.out).signs).mono ?_
        intro e w4 hp4
        rw [HT.out] at hp4
        obtain ⟨cs, rfl, hat4, hgr4⟩ := hp4
        have HX4 := Lib.hid (grown_trans HG2.out hgr4)
        clear hgr4
        by_cases hdp : nestDeep k n ≤ 200
        · obtain ⟨fn, hr⟩ := nest_good k n hk hdp
          rw [hr] at hat4
          rw [hr]
          obtain ⟨gv4, fv4, rfl, hgl4, hfn4⟩ := hat4
          obtain ⟨ga4, gk4, gc4, rfl⟩ := hgl4.slice
          obtain ⟨g1, o1, cap1, pv, bv, rfl, _⟩ := fns_one hfn4
          clear hgl4 hfn4 hr
          rw [HD.out] at hdp
          have hd1 : decide (200 < 2 + (n : Int)) = false := by simp; omega
          go_wp2_with (fail)
          go_ret
          exact ⟨rfl, below_grown (grown_trans (grown_trans HX4.out (grown_alloc _ _)) (grown_alloc _ _)) (Nat.le_refl _)⟩
        · obtain ⟨hr1, hr2⟩ := nest_deep k n hk (by omega)
          rw [hr2] at hat4
          rw [hr1]
          obtain ⟨gv4, fv4, rfl, hgl4, hfn4⟩ := hat4
          obtain ⟨ga4, gk4, gc4, rfl⟩ := hgl4.slice
          obtain ⟨fa4, fc4, rfl⟩ := fns_none hfn4
          clear hgl4 hfn4 hr1 hr2
          generalize (parseL (nestText k n)).2.2.1 = L1
          generalize (parseL (nestText k n)).2.2.2 = L2
          rw [HD.out] at hdp
          have hd1 : decide (200 < 2 + (n : Int)) = true := by simp; omega
          go_wp2_with (fail)
          go_ret
          exact ⟨rfl, below_grown (grown_trans (grown_trans HX4.out (grown_alloc _ _)) (grown_alloc _ _)) (Nat.le_refl _)⟩
      · have d3 : decide (3 ≤ (k : Int)) = true := by simp; omega
        have d3' : decide (3 ≤ k) = true := by simp; omega
        have htext : ((⟨#[102, 117, 110, 99, 32, 102, 40, 41, 32, 123, 32]⟩ : ByteArray) ++ X ++ Y ++ ⟨#[32, 125]⟩).data.toList = nestText k n := by
          rw [nestText, if_neg h3, ← HX.out, ← HY.out]
          simp [ByteArray.data_append, fnPre, fnEnd, List.append_assoc]
        have HT := Lib.hid htext
        have HD := Lib.hid (show nestDeep k n = 1 + n by rw [nestDeep, if_neg h3])
        clear htext
        go_wp2_with (fail)
        refine (Program_any _ (by rw [ByteArray.size_append, ByteArray.size_append, ByteArray.size_append]; have q1 : (⟨#[102, 117, 110, 99, 32, 102, 40, 41, 32, 123, 32]⟩ : ByteArray).size = 11 := rfl; have q3 : (⟨#[32, 125]⟩ : ByteArray).size = 2 := rfl; omega) _ (HG.out.more HG2.out).signs).mono ?_
        intro e w4 hp4
        rw [HT.out] at hp4
        obtain ⟨cs, rfl, hat4, hgr4⟩ := hp4
        have HX4 := Lib.hid (grown_trans HG2.out hgr4)
        clear hgr4
        by_cases hdp : nestDeep k n ≤ 200
        · obtain ⟨fn, hr⟩ := nest_good k n hk hdp
          rw [hr] at hat4
          rw [hr]
          obtain ⟨gv4, fv4, rfl, hgl4, hfn4⟩ := hat4
          obtain ⟨ga4, gk4, gc4, rfl⟩ := hgl4.slice
          obtain ⟨g1, o1, cap1, pv, bv, rfl, _⟩ := fns_one hfn4
          clear hgl4 hfn4 hr
          rw [HD.out] at hdp
          have hd1 : decide (200 < 1 + (n : Int)) = false := by simp; omega
          go_wp2_with (fail)
          go_ret
          exact ⟨rfl, below_grown (grown_trans (grown_trans HX4.out (grown_alloc _ _)) (grown_alloc _ _)) (Nat.le_refl _)⟩
        · obtain ⟨hr1, hr2⟩ := nest_deep k n hk (by omega)
          rw [hr2] at hat4
          rw [hr1]
          obtain ⟨gv4, fv4, rfl, hgl4, hfn4⟩ := hat4
          obtain ⟨ga4, gk4, gc4, rfl⟩ := hgl4.slice
          obtain ⟨fa4, fc4, rfl⟩ := fns_none hfn4
          clear hgl4 hfn4 hr1 hr2
          generalize (parseL (nestText k n)).2.2.1 = L1
          generalize (parseL (nestText k n)).2.2.2 = L2
          rw [HD.out] at hdp
          have hd1 : decide (200 < 1 + (n : Int)) = true := by simp; omega
          go_wp2_with (fail)
          go_ret
          exact ⟨rfl, below_grown (grown_trans (grown_trans HX4.out (grown_alloc _ _)) (grown_alloc _ _)) (Nat.le_refl _)⟩
theorem all (a : Int) (ha : InI64 a) (b : Int) (hb : InI64 b) (w : World) (hg : Ground w) :
    Calls Tryd.prog 4 #[.int .i64 a, .int .i64 b] w fun e w' => e = .returned (.bool true) ∧ Below w.heap.size w w' :=
  nests_core a b _ _ (by have := Int.emod_lt_of_pos (a % 18446744073709551616) (show (0 : Int) < (5 : Nat) by decide); omega) (by omega) (rem_at a 5 (by decide) (by decide)) (and255 b) w hg


theorem door_met (os : Os) (args : Array Value) : laidMetH Tryd.prog [("math/bits.deBruijn32tab", Rows.laid_math_bits_deBruijn32tab), ("math/bits.deBruijn64tab", Rows.laid_math_bits_deBruijn64tab), ("internal/strconv.uint64pow10", Rows.laid_internal_strconv_uint64pow10), ("palings/ast.signs", Rows.laid_palings_ast_signs)] ((World.doorLaid Tryd.prog 4000 os).forCall (fun _ _ => 0) ⟨#[], args, []⟩).memory :=
  laidMetH_of_parts3 (fuel := 8) (laidMet_of_run' 8 (by kernel_rfl) (by kernel_rfl)) (by kernel_rfl) (by kernel_rfl)
theorem own : ownKnob Tryd.prog.godebug = none := by kernel_rfl

set_option maxHeartbeats 2000000 in
set_option maxRecDepth 100000 in
theorem lifted (os : Os) (started : os.Started) (H : Type) (enc : TypeId × Value → H) :
    ReturnsInHanded {} Tryd.checked os 4 .any (fun w args => (Rows.parseNestsSpec.pre enc Tryd.prog Tryd.f4 [] false w args ∧ laidMetH Tryd.prog [("math/bits.deBruijn32tab", Rows.laid_math_bits_deBruijn32tab), ("math/bits.deBruijn64tab", Rows.laid_math_bits_deBruijn64tab), ("internal/strconv.uint64pow10", Rows.laid_internal_strconv_uint64pow10), ("palings/ast.signs", Rows.laid_palings_ast_signs)] w) ∧ sizedMet enc Tryd.prog Tryd.f4 (OpenSpec.ofChange Rows.parseNestsSpec) false w args)
      (Rows.parseNestsSpec.post enc Tryd.prog Tryd.f4 false true false false) := by
  refine returnsInHanded_of_change_and (C := Tryd.checked) (X := fun w _ => laidMetH Tryd.prog [("math/bits.deBruijn32tab", Rows.laid_math_bits_deBruijn32tab), ("math/bits.deBruijn64tab", Rows.laid_math_bits_deBruijn64tab), ("internal/strconv.uint64pow10", Rows.laid_internal_strconv_uint64pow10), ("palings/ast.signs", Rows.laid_palings_ast_signs)] w) (fun _ _ _ hh h => h.of_heap hh) own started (by kernel_rfl) Tryd.func4
    (ChangeSpec.witness_shaped (enc := enc) (C := Tryd.checked) (os := os) (X := fun w _ => laidMetH Tryd.prog [("math/bits.deBruijn32tab", Rows.laid_math_bits_deBruijn32tab), ("math/bits.deBruijn64tab", Rows.laid_math_bits_deBruijn64tab), ("internal/strconv.uint64pow10", Rows.laid_internal_strconv_uint64pow10), ("palings/ast.signs", Rows.laid_palings_ast_signs)] w) false (World.doorLaid Tryd.prog 4000 os) #[.int .i64 0, .int .i64 0] 8 rfl (World.shaped_of_RefB (by kernel_rfl) (by kernel_rfl)) (by kernel_rfl) (by kernel_rfl) (by kernel_rfl) (door_met os _)) ?_
  intro W base args ds gs before hval0 hW _ _ hL _
  have hval : ∀ (j : Nat) t v, Tryd.f4.params[j]? = some t → args[j]? = some v → Value.okWide Tryd.prog W .any base t v := hval0
  have hW' := hW
  obtain ⟨p, q, hA0, hV, rfl, hfz, hnd⟩ := hW
  have hA : DataW.TrodAll enc Tryd.prog W 0 (fun _ => true) true Tryd.f4.params.toList args.toList ds p := hA0
  rw [Tryd.params4] at hA hval
  obtain ⟨v0, vs0, d0, ds0, p0, q0, hargs, rfl, rfl, h0, r0⟩ := trodAll_cons hA
  obtain ⟨v1, vs1, d1, ds1, p1, q1, rfl, rfl, rfl, h1, r1⟩ := trodAll_cons r0
  obtain ⟨rfl, rfl, rfl⟩ := trodAll_nil r1
  obtain rfl : args = #[v0, v1] := by cases args; simp_all
  obtain ⟨rfl, rfl⟩ := trodVars_none hV
  obtain ⟨a0, rfl, rfl, rfl, w0⟩ := open_int Tryd.underlying3 (hval 0 3 v0 rfl rfl) h0
  obtain ⟨a1, rfl, rfl, rfl, w1⟩ := open_int Tryd.underlying3 (hval 1 3 v1 rfl rfl) h1
  clear hA0 hval0
  simp only [List.append_nil] at hW'
  refine (all a0 (bounds_i64 w0) a1 (bounds_i64 w1) W (ground_of (by kernel_rfl) (by simp) (by simp) hL)).mono fun e W' ⟨he, hg⟩ => ?_
  subst he
  exact ⟨_, rfl, post_new hW' (fun _ _ _ => (trodAll_cons_mk (shut_bool Tryd.underlying4 _) trodAll_mk0)) (fun sp => (trodAll_cons_mk (shut_int Tryd.underlying3 w0) (trodAll_cons_mk (shut_int Tryd.underlying3 w1) trodAll_mk0))) (fun _ => rfl) hg (ok_one (by kernel_rfl) rfl (okWide_bool_mk Tryd.underlying4 _))⟩

theorem row_holds : Rows.ParseNestsSaid :=
  OpenClaim.holds_of_wide 4 Tryd.f4 rfl rfl rfl rfl rfl rfl rfl ⟨rfl, rfl, rfl, rfl, rfl⟩ rfl rfl rfl rfl rfl (by kernel_rfl) Tryd.func4 (by kernel_rfl)
    (of_decide_eq_true (by kernel_rfl)) (by unfold Func.isWrapper; first | (rw [if_pos (by decide +kernel)]; kernel_rfl) | (rw [if_neg (by decide +kernel)]; exact ⟨rfl, rfl⟩))
    (fun os started H enc _ => lifted os started H enc)

/-- THE TIED CARD. -/
theorem proved : Rows.ParseNestsCardSaid :=
  Claim7.holds_tied_plain_at .later [] [.data, .data, .data, .data] true (true, "610b11168ef55bf6870f634f4d0465f649b1fd268af35aca64eca690de79b1ed") false
    row_holds (fun _ h => by cases h) (by kernel_rfl) (fun _ h => by cases h) parseNests_row_tie rfl ⟨rfl, rfl⟩ (by kernel_rfl) rfl
    (fun f fn hf hfn => by
      obtain rfl : f = 4 := Option.some.inj ((show Tryd.prog.funcNamed "palings/palingslaw04.ParseNests" = some 4 by kernel_rfl).symm.trans hf) |>.symm
      obtain rfl : fn = Tryd.f4 := (Option.some.inj (Tryd.func4.symm.trans hfn)).symm
      exact ⟨by kernel_rfl, fun j t ht => by
        rw [Tryd.params4] at ht
        have hm : t ∈ [3, 3] := by simpa using Array.mem_of_getElem? ht
        have hall : ([3, 3].all fun u => !Tryd.prog.wantsStandIn u) = true := by kernel_rfl
        exact (show Tryd.prog.wantsStandIn t = false by simpa using List.all_eq_true.1 hall t hm)⟩)
    (by kernel_rfl)
#print axioms proved
end Go.Proofs.YtgnnendcgbijnaaDoor.parseNests
