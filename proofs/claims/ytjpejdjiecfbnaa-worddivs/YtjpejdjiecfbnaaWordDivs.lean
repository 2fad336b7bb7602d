/-
  WordDivs: for every two words the law returns true, and its arguments read as before. No condition.
-/
import Derived.Test.YtjpejdjiecfbnaaRows
import Derived.Test.YtjpejdjiecfbnaaDo
import Derived.Lib.Hide
import Derived.WalkKit
import Derived.ProofKit
import Derived.OpenShut
namespace Go.Proofs.Ytjpejdjiecfbnaa.wordDivs
open Go.ChangeShapes Go.WideShapes Go.ChangeAt Go.RowKit
set_option linter.unusedVariables false      -- a walk need not use every 'w<i>' (that an integer argument fits its kind)

theorem own : ownKnob Try.prog.godebug = none := by kernel_rfl

theorem ret_int {k : IntKind} {a b : Int} (h : a = b) : Ending.returned (.int k a) = .returned (.int k b) := by rw [h]
def size (x : Int) : Int := x.natAbs
theorem size_any (x : Int) (h1 : -9223372036854775808 ≤ x) (h2 : x ≤ 9223372036854775807) (w : World) :
    Calls Try.prog 10 #[.int .i64 x] w fun e w' => e = .returned (.int .u64 (size x)) ∧ w = w' := by
  have H1 := Lib.hid h1; have H2 := Lib.hid h2; clear h1 h2
  by_cases h : x < 0
  · go_enter Try.func10, Try.ntmps10
    go_wp2
    go_ret
    refine ⟨ret_int ?_, rfl⟩
    have := H1.out
    simp only [IntKind.wrap_u64, size]
    omega
  · go_enter Try.func10, Try.ntmps10
    go_wp2
    go_ret
    refine ⟨ret_int ?_, rfl⟩
    have := H2.out
    simp only [IntKind.wrap_u64, size]
    omega

theorem core0 (a b q r : Int)
   (hb0 : (b == 0) = false) (H1 : (wrap64 (wrap64 (q * b) + r) != a) = false)
   (H2 : decide (size r < size b) = true) (H3 : (r == 0) = false) (H4 : (decide (r < 0) == decide (a < 0)) = true)
   (H5 : ¬ size b = 0) (H6 : (size q == IntKind.u64.wrap ((size a).tdiv (size b))) = true)
   (D : ∀ w, Calls Try.prog 9 #[.int .i64 4, .int .i64 a, .int .i64 b] w fun e w' => e = .returned (.tuple #[.int .i64 q, .bool true]) ∧ w = w')
   (M : ∀ w, Calls Try.prog 9 #[.int .i64 5, .int .i64 a, .int .i64 b] w fun e w' => e = .returned (.tuple #[.int .i64 r, .bool true]) ∧ w = w')
   (Sr : ∀ w, Calls Try.prog 10 #[.int .i64 r] w fun e w' => e = .returned (.int .u64 (size r)) ∧ w = w')
   (Sq : ∀ w, Calls Try.prog 10 #[.int .i64 q] w fun e w' => e = .returned (.int .u64 (size q)) ∧ w = w')
   (Sa : ∀ w, Calls Try.prog 10 #[.int .i64 a] w fun e w' => e = .returned (.int .u64 (size a)) ∧ w = w')
   (Sb : ∀ w, Calls Try.prog 10 #[.int .i64 b] w fun e w' => e = .returned (.int .u64 (size b)) ∧ w = w')
   (w : World) :
    Calls Try.prog 4 #[.int .i64 a, .int .i64 b] w fun e w' => e = .returned (.bool true) ∧ w = w' := by
  have HD := Lib.hid D; have HM := Lib.hid M; have Hr := Lib.hid Sr; have Hq := Lib.hid Sq; have Ha := Lib.hid Sa; have Hb := Lib.hid Sb; clear D M Sr Sq Sa Sb
  go_enter Try.func4, Try.ntmps4
  go_wp2_with (fail)
  refine (head_any _).mono ?_; rintro e w' ⟨rfl, rfl⟩
  go_wp2_with (fail)
  with_reducible refine (HD.out _).mono ?_
  rintro e w' ⟨rfl, rfl⟩
  go_wp2_with (fail)
  with_reducible refine (HM.out _).mono ?_
  rintro e w' ⟨rfl, rfl⟩
  go_wp2_with (fail)
  with_reducible refine (Hr.out _).mono ?_
  rintro e w' ⟨rfl, rfl⟩
  go_wp2_with (fail)
  with_reducible refine (Hb.out _).mono ?_
  rintro e w' ⟨rfl, rfl⟩
  go_wp2_with (fail)
  with_reducible refine (Hq.out _).mono ?_
  rintro e w' ⟨rfl, rfl⟩
  go_wp2_with (fail)
  with_reducible refine (Ha.out _).mono ?_
  rintro e w' ⟨rfl, rfl⟩
  go_wp2_with (fail)
  with_reducible refine (Hb.out _).mono ?_
  rintro e w' ⟨rfl, rfl⟩
  go_wp2_with (fail)
  go_ret
  exact ⟨rfl, rfl⟩

theorem core1 (a b q r : Int)
   (hb0 : (b == 0) = false) (H1 : (wrap64 (wrap64 (q * b) + r) != a) = false)
   (H2 : decide (size r < size b) = true) (H3 : (r == 0) = true)
   (H5 : ¬ size b = 0) (H6 : (size q == IntKind.u64.wrap ((size a).tdiv (size b))) = true)
   (D : ∀ w, Calls Try.prog 9 #[.int .i64 4, .int .i64 a, .int .i64 b] w fun e w' => e = .returned (.tuple #[.int .i64 q, .bool true]) ∧ w = w')
   (M : ∀ w, Calls Try.prog 9 #[.int .i64 5, .int .i64 a, .int .i64 b] w fun e w' => e = .returned (.tuple #[.int .i64 r, .bool true]) ∧ w = w')
   (Sr : ∀ w, Calls Try.prog 10 #[.int .i64 r] w fun e w' => e = .returned (.int .u64 (size r)) ∧ w = w')
   (Sq : ∀ w, Calls Try.prog 10 #[.int .i64 q] w fun e w' => e = .returned (.int .u64 (size q)) ∧ w = w')
   (Sa : ∀ w, Calls Try.prog 10 #[.int .i64 a] w fun e w' => e = .returned (.int .u64 (size a)) ∧ w = w')
   (Sb : ∀ w, Calls Try.prog 10 #[.int .i64 b] w fun e w' => e = .returned (.int .u64 (size b)) ∧ w = w')
   (w : World) :
    Calls Try.prog 4 #[.int .i64 a, .int .i64 b] w fun e w' => e = .returned (.bool true) ∧ w = w' := by
  have HD := Lib.hid D; have HM := Lib.hid M; have Hr := Lib.hid Sr; have Hq := Lib.hid Sq; have Ha := Lib.hid Sa; have Hb := Lib.hid Sb; clear D M Sr Sq Sa Sb
  go_enter Try.func4, Try.ntmps4
  go_wp2_with (fail)
  refine (head_any _).mono ?_; rintro e w' ⟨rfl, rfl⟩
  go_wp2_with (fail)
  with_reducible refine (HD.out _).mono ?_
  rintro e w' ⟨rfl, rfl⟩
  go_wp2_with (fail)
  with_reducible refine (HM.out _).mono ?_
  rintro e w' ⟨rfl, rfl⟩
  go_wp2_with (fail)
  with_reducible refine (Hr.out _).mono ?_
  rintro e w' ⟨rfl, rfl⟩
  go_wp2_with (fail)
  with_reducible refine (Hb.out _).mono ?_
  rintro e w' ⟨rfl, rfl⟩
  go_wp2_with (fail)
  with_reducible refine (Hq.out _).mono ?_
  rintro e w' ⟨rfl, rfl⟩
  go_wp2_with (fail)
  with_reducible refine (Ha.out _).mono ?_
  rintro e w' ⟨rfl, rfl⟩
  go_wp2_with (fail)
  with_reducible refine (Hb.out _).mono ?_
  rintro e w' ⟨rfl, rfl⟩
  go_wp2_with (fail)
  go_ret
  exact ⟨rfl, rfl⟩

theorem core_zero (a : Int) (w : World) :
    Calls Try.prog 4 #[.int .i64 a, .int .i64 0] w fun e w' => e = .returned (.bool true) ∧ w = w' := by
  go_enter Try.func4, Try.ntmps4
  go_wp2_with (fail)
  refine (head_any _).mono ?_; rintro e w' ⟨rfl, rfl⟩
  go_wp2_with (fail)
  with_reducible refine (do_div_zero _ _).mono ?_
  rintro e w' ⟨rfl, rfl⟩
  go_wp2_with (fail)
  with_reducible refine (do_mod_zero _ _).mono ?_
  rintro e w' ⟨rfl, rfl⟩
  go_wp2_with (fail)
  go_ret
  exact ⟨rfl, rfl⟩

theorem wrap64_bmod (n : Int) : wrap64 n = n.bmod 18446744073709551616 := by
  unfold wrap64; simp only [Int.bmod]; split <;> omega
theorem wrap64_range (n : Int) : -9223372036854775808 ≤ wrap64 n ∧ wrap64 n ≤ 9223372036854775807 := by
  unfold wrap64; omega
theorem again (a b : Int) (h1 : -9223372036854775808 ≤ a) (h2 : a ≤ 9223372036854775807) :
    wrap64 (wrap64 (wrap64 (a.tdiv b) * b) + a.tmod b) = a := by
  rw [wrap64_bmod (a.tdiv b), wrap64_bmod, wrap64_bmod, Int.bmod_mul_bmod, Int.bmod_add_bmod, Int.tdiv_mul_add_tmod, ← wrap64_bmod]
  unfold wrap64; omega
theorem abs_wrap (x : Int) (h1 : -9223372036854775808 ≤ x) (h2 : x ≤ 9223372036854775808) : (wrap64 x).natAbs = x.natAbs := by
  unfold wrap64; omega
theorem abs_tdiv (a b : Int) : (a.tdiv b).natAbs = a.natAbs / b.natAbs := Int.natAbs_tdiv a b
theorem abs_tmod (a b : Int) : (a.tmod b).natAbs = a.natAbs % b.natAbs := Int.natAbs_tmod a b
theorem tdiv_range (a b : Int) (h1 : -9223372036854775808 ≤ a) (h2 : a ≤ 9223372036854775807) :
    -9223372036854775808 ≤ a.tdiv b ∧ a.tdiv b ≤ 9223372036854775808 := by
  have h := abs_tdiv a b
  have := Nat.div_le_self a.natAbs b.natAbs
  omega
theorem sign_tmod (a b : Int) (h : a.tmod b ≠ 0) : (a.tmod b < 0) ↔ (a < 0) := by
  constructor
  · intro h1
    by_cases ha : a < 0
    · exact ha
    · have := Int.tmod_nonneg b (show 0 ≤ a by omega); omega
  · intro ha
    have := Int.tmod_nonneg b (show 0 ≤ -a by omega)
    rw [Int.neg_tmod] at this; omega
theorem all (a b : Int) (ha : -9223372036854775808 ≤ a ∧ a ≤ 9223372036854775807) (hb : -9223372036854775808 ≤ b ∧ b ≤ 9223372036854775807) (w : World) :
    Calls Try.prog 4 #[.int .i64 a, .int .i64 b] w fun e w' => e = .returned (.bool true) ∧ w = w' := by
  by_cases hb0 : b = 0
  · subst hb0; exact core_zero a w
  · have hb1 : (b == 0) = false := by simpa using hb0
    have hq := wrap64_range (a.tdiv b)
    have hm : (a.tmod b).natAbs < b.natAbs := by rw [abs_tmod]; exact Nat.mod_lt _ (by omega)
    have h1 : (wrap64 (wrap64 (wrap64 (a.tdiv b) * b) + a.tmod b) != a) = false := by rw [again a b ha.1 ha.2]; simp
    have h2 : decide (size (a.tmod b) < size b) = true := decide_eq_true (by simp only [size]; omega)
    have h5 : ¬ size b = 0 := by simp only [size]; omega
    have h6 : (size (wrap64 (a.tdiv b)) == IntKind.u64.wrap ((size a).tdiv (size b))) = true := by
      have r := tdiv_range a b ha.1 ha.2
      have hd := Nat.div_le_self a.natAbs b.natAbs
      simp only [size, abs_wrap _ r.1 r.2, abs_tdiv, IntKind.wrap_u64, beq_iff_eq]
      rw [Int.tdiv_eq_ediv_of_nonneg (by omega), ← Int.natCast_ediv]
      generalize a.natAbs / b.natAbs = z at hd
      omega
    by_cases h3 : a.tmod b = 0
    · exact core1 a b (wrap64 (a.tdiv b)) (a.tmod b) hb1 h1 h2 (by simpa using h3) h5 h6 (fun w => do_div a b hb1 w) (fun w => do_mod a b hb1 w) (fun w => size_any _ (by omega) (by omega) w) (fun w => size_any _ hq.1 hq.2 w) (fun w => size_any _ ha.1 ha.2 w) (fun w => size_any _ hb.1 hb.2 w) w
    · have h4 : (decide (a.tmod b < 0) == decide (a < 0)) = true := by
        have := sign_tmod a b h3
        simp [this]
      exact core0 a b (wrap64 (a.tdiv b)) (a.tmod b) hb1 h1 h2 (by simpa using h3) h4 h5 h6 (fun w => do_div a b hb1 w) (fun w => do_mod a b hb1 w) (fun w => size_any _ (by omega) (by omega) w) (fun w => size_any _ hq.1 hq.2 w) (fun w => size_any _ ha.1 ha.2 w) (fun w => size_any _ hb.1 hb.2 w) w


theorem walk (a0 : Int) (a1 : Int) (w0 : (Lit.int .i64 a0).wf = true) (w1 : (Lit.int .i64 a1).wf = true) (w : World) :
    Calls Try.prog 4 #[.int .i64 a0, .int .i64 a1] w fun e w' => e = .returned (.bool true) ∧ Grown w w' := by
  have b0 := bounds_i64 w0
  have b1 := bounds_i64 w1
  exact (all a0 a1 (by omega) (by omega) w).mono fun e w' ⟨he, hw⟩ => ⟨he, hw ▸ Grown.refl _⟩

/-! ### THE ROW's STEP: WRITTEN OUT: LEAVE IT -/
set_option maxRecDepth 100000 in
theorem lifted (os : Os) (started : os.Started) (H : Type) (enc : TypeId × Value → H) :
    ReturnsInHanded {} Try.checked os 4 .any (Rows.wordDivsSpec.pre6 enc Try.prog Try.f4 Rows.wordDivsRow.domain false) (Rows.wordDivsSpec.post enc Try.prog Try.f4 false true false false) := by
  refine returnsInHanded_of_change (C := Try.checked) own started (by kernel_rfl) Try.func4
    (ChangeSpec.witness6 (enc := enc) (C := Try.checked) false ⟨#[], #[.int .i64 0, .int .i64 0], []⟩ 8 (by kernel_rfl) (by kernel_rfl) (by kernel_rfl) (by kernel_rfl)) ?_
  intro W base args ds gs before hval0 hW hcnd _
  have hval : ∀ (j : Nat) t v, Try.f4.params[j]? = some t → args[j]? = some v → Value.okWide Try.prog W .any base t v := hval0
  have hW' := hW
  obtain ⟨p, q, hA0, hV, rfl, hfz, hnd⟩ := hW
  have hA : DataW.TrodAll enc Try.prog W 0 (fun _ => true) true Try.f4.params.toList args.toList ds p := hA0
  rw [Try.params4] at hA hval
  obtain ⟨v0, vs0, d0, ds0, p0, q0, hargs, rfl, rfl, h0, r0⟩ := trodAll_cons hA
  obtain ⟨v1, vs1, d1, ds1, p1, q1, rfl, rfl, rfl, h1, r1⟩ := trodAll_cons r0
  obtain ⟨rfl, rfl, rfl⟩ := trodAll_nil r1
  obtain rfl : args = #[v0, v1] := by cases args; simp_all
  obtain ⟨rfl, rfl⟩ := trodVars_none hV
  obtain ⟨a0, rfl, rfl, rfl, w0⟩ := open_int Try.underlying2 (hval 0 2 v0 rfl rfl) h0
  obtain ⟨a1, rfl, rfl, rfl, w1⟩ := open_int Try.underlying2 (hval 1 2 v1 rfl rfl) h1
  clear hA0 hval0
  simp only [List.append_nil] at hW'
  refine (walk a0 a1 w0 w1 W).mono fun e W' ⟨he, hg⟩ => ?_
  subst he
  exact ⟨_, rfl, post_of_same (pa := []) (pv := []) hW' (fun _ _ _ => (trodAll_cons_mk (shut_bool Try.underlying4 _) trodAll_mk0)) (fun sp _ => (trodAll_cons_mk (shut_int Try.underlying2 w0) (trodAll_cons_mk (shut_int Try.underlying2 w1) trodAll_mk0))) (fun _ _ => rfl) rfl
    (hg.frame _) hg.2.1 (ok_one (by kernel_rfl) rfl (okWide_bool_mk Try.underlying4 _))⟩

theorem over : Rows.wordDivsRow.holds Try.pinned (OpenSpec.ofChange Rows.wordDivsSpec) :=
  OpenClaim.holds_of_wide 4 Try.f4 rfl rfl rfl rfl rfl rfl rfl ⟨rfl, rfl, rfl, rfl, rfl⟩ rfl rfl rfl rfl rfl (by kernel_rfl) Try.func4 (by kernel_rfl)
    (of_decide_eq_true (by kernel_rfl)) (by unfold Func.isWrapper; first | (rw [if_pos (by decide +kernel)]; kernel_rfl) | (rw [if_neg (by decide +kernel)]; exact ⟨rfl, rfl⟩))
    (fun os started H enc _ => lifted os started H enc)

/-- ████ THE STATEMENT ████ -/
theorem proved : Rows.WordDivsSaid :=
  over
#print axioms proved
end Go.Proofs.Ytjpejdjiecfbnaa.wordDivs
