/-
  AstSigns: for every two numbers the law returns true, and its arguments read as before. The package-level tables are as the program's text lays them (the card ties them).
-/
import Derived.Test.YtflbaombdihhdaaDoorTie
import Derived.Test.YtflbaombdihhdaaDoorCards
import Derived.Test.YtflbaombdihhdaaDoorAstL
import Derived.ProofKit
import Derived.LaidMore
import Derived.OpenShut
import Derived.ShutString
import Derived.SliceStrings
import Derived.Stop.Joined
import Derived.SevenTiedAt
namespace Go.Proofs.YtflbaombdihhdaaDoor.astSigns
open Go.ChangeShapes Go.WideShapes Go.ChangeAt Go.WideMaps Go.WideElems Go.RowKit
open Go.ChangeMaps (open_string shut_string)
set_option linter.unusedVariables false

theorem sign_out {o : Int} (h : o < 1 ∨ 14 < o) : signL o = [] := by unfold signL; rw [if_pos h]
theorem all14 : ∀ i, i < 14 → ∀ j, j < 14 → (signsAll.getD i [] = signsAll.getD j [] → i = j) ∧ signsAll.getD i [] ≠ [] ∧ (signsAll.getD i []).length ≤ 2 := by decide
theorem sign_in {o : Int} (h : ¬ (o < 1 ∨ 14 < o)) : signL o = signsAll.getD (o - 1).toNat [] := by unfold signL; rw [if_neg h]
theorem sign_facts {a b : Int} (ha : ¬ (a < 1 ∨ 14 < a)) : signL a ≠ [] ∧ (signL a).length ≤ 2 ∧ (signL a = signL b ↔ a = b) := by
  have h1 := sign_in ha
  have h0 := all14 (a - 1).toNat (by omega) 0 (by omega)
  refine ⟨by rw [h1]; exact h0.2.1, by rw [h1]; exact h0.2.2, ⟨fun e => ?_, fun e => by rw [e]⟩⟩
  by_cases hb : b < 1 ∨ 14 < b
  · rw [sign_out hb, h1] at e; exact absurd e h0.2.1
  · rw [h1, sign_in hb] at e
    have := (all14 (a - 1).toNat (by omega) (b - 1).toNat (by omega)).1 e
    omega

set_option maxHeartbeats 1000000 in
set_option maxRecDepth 100000 in
theorem signs_in (a b : Int) (ha : InI64 a) (hb : InI64 b) (h : ¬ (a < 1 ∨ 14 < a)) (w : World) (hg : Ground w) :
    Calls Tryd.prog 4 #[.int .i64 a, .int .i64 b] w fun e w' => e = .returned (.bool true) ∧ Below w.heap.size w w' := by
  obtain ⟨s1, s2, s3⟩ := sign_facts (b := b) h
  have HG := Lib.hid hg; have HA := Lib.hid ha; have HB := Lib.hid hb
  clear hg ha hb
  have a1 : 1 ≤ a := by omega
  have a2 : a ≤ 14 := by omega
  clear h
  have f1 : (signL a).isEmpty = false := by cases hs : signL a; exact absurd hs s1; rfl
  have f2 : (signL a == signL b) = (a == b) := by rw [Bool.eq_iff_iff]; simpa using s3
  have f3 : decide (((signL a).length : Int) ≤ 2) = true := by simpa using (show ((signL a).length : Int) ≤ 2 by omega)
  clear s3
  go_enter Tryd.func4, Tryd.ntmps4
  go_wp2_with (fail)
  refine (head_any _ HG.out).mono ?_; rintro e w1 ⟨rfl, hb1⟩
  have HB1 := Lib.hid hb1; clear hb1
  go_wp2_with (fail)
  refine (sign_any a HA.out _ (HG.out.later HB1.out).signs).mono ?_; rintro e w2 ⟨rfl, rfl⟩
  go_wp2_with (fail)
  refine (sign_any b HB.out _ (HG.out.later HB1.out).signs).mono ?_; rintro e w2 ⟨rfl, rfl⟩
  go_wp2_with (fail)
  go_ret
  exact ⟨rfl, HB1.out⟩

set_option maxHeartbeats 1000000 in
set_option maxRecDepth 100000 in
theorem signs_out (a b : Int) (ha : InI64 a) (hb : InI64 b) (h : a < 1 ∨ 14 < a) (w : World) (hg : Ground w) :
    Calls Tryd.prog 4 #[.int .i64 a, .int .i64 b] w fun e w' => e = .returned (.bool true) ∧ Below w.heap.size w w' := by
  have hs := sign_out h
  have HG := Lib.hid hg; have HA := Lib.hid ha; have HB := Lib.hid hb; have HS := Lib.hid hs
  clear hg ha hb hs
  rcases h with h | h
  · have h' : ¬ 1 ≤ a := by omega
    go_enter Tryd.func4, Tryd.ntmps4
    go_wp2_with (fail)
    refine (head_any _ HG.out).mono ?_; rintro e w1 ⟨rfl, hb1⟩
    have HB1 := Lib.hid hb1; clear hb1
    go_wp2_with (fail)
    refine (sign_any a HA.out _ (HG.out.later HB1.out).signs).mono ?_; rintro e w2 ⟨rfl, rfl⟩
    rw [HS.out]
    go_wp2_with (fail)
    refine (sign_any b HB.out _ (HG.out.later HB1.out).signs).mono ?_; rintro e w2 ⟨rfl, rfl⟩
    go_wp2_with (fail)
    go_ret
    exact ⟨rfl, HB1.out⟩
  · have h' : 1 ≤ a := by omega
    have b14 : decide (a ≤ 14) = false := by simpa using h
    have h'' : ¬ a ≤ 14 := by omega
    go_enter Tryd.func4, Tryd.ntmps4
    go_wp2_with (fail)
    refine (head_any _ HG.out).mono ?_; rintro e w1 ⟨rfl, hb1⟩
    have HB1 := Lib.hid hb1; clear hb1
    go_wp2_with (fail)
    refine (sign_any a HA.out _ (HG.out.later HB1.out).signs).mono ?_; rintro e w2 ⟨rfl, rfl⟩
    rw [HS.out]
    go_wp2_with (fail)
    refine (sign_any b HB.out _ (HG.out.later HB1.out).signs).mono ?_; rintro e w2 ⟨rfl, rfl⟩
    go_wp2_with (fail)
    go_ret
    exact ⟨rfl, HB1.out⟩

theorem all (a : Int) (ha : InI64 a) (b : Int) (hb : InI64 b) (w : World) (hg : Ground w) :
    Calls Tryd.prog 4 #[.int .i64 a, .int .i64 b] w fun e w' => e = .returned (.bool true) ∧ Below w.heap.size w w' := by
  by_cases h : a < 1 ∨ 14 < a
  · exact signs_out a b ha hb h w hg
  · exact signs_in a b ha hb h w hg


theorem door_met (os : Os) (args : Array Value) : laidMetH Tryd.prog [("math/bits.deBruijn32tab", Rows.laid_math_bits_deBruijn32tab), ("math/bits.deBruijn64tab", Rows.laid_math_bits_deBruijn64tab), ("internal/strconv.uint64pow10", Rows.laid_internal_strconv_uint64pow10), ("palings/ast.signs", Rows.laid_palings_ast_signs)] ((World.doorLaid Tryd.prog 4000 os).forCall (fun _ _ => 0) ⟨#[], args, []⟩).memory :=
  laidMetH_of_parts3 (fuel := 8) (laidMet_of_run' 8 (by kernel_rfl) (by kernel_rfl)) (by kernel_rfl) (by kernel_rfl)
theorem own : ownKnob Tryd.prog.godebug = none := by kernel_rfl

set_option maxHeartbeats 2000000 in
set_option maxRecDepth 100000 in
theorem lifted (os : Os) (started : os.Started) (H : Type) (enc : TypeId × Value → H) :
    ReturnsInHanded {} Tryd.checked os 4 .any (fun w args => (Rows.astSignsSpec.pre enc Tryd.prog Tryd.f4 [] false w args ∧ laidMetH Tryd.prog [("math/bits.deBruijn32tab", Rows.laid_math_bits_deBruijn32tab), ("math/bits.deBruijn64tab", Rows.laid_math_bits_deBruijn64tab), ("internal/strconv.uint64pow10", Rows.laid_internal_strconv_uint64pow10), ("palings/ast.signs", Rows.laid_palings_ast_signs)] w) ∧ sizedMet enc Tryd.prog Tryd.f4 (OpenSpec.ofChange Rows.astSignsSpec) false w args)
      (Rows.astSignsSpec.post enc Tryd.prog Tryd.f4 false true false false) := by
  refine returnsInHanded_of_change_and (C := Tryd.checked) (X := fun w _ => laidMetH Tryd.prog [("math/bits.deBruijn32tab", Rows.laid_math_bits_deBruijn32tab), ("math/bits.deBruijn64tab", Rows.laid_math_bits_deBruijn64tab), ("internal/strconv.uint64pow10", Rows.laid_internal_strconv_uint64pow10), ("palings/ast.signs", Rows.laid_palings_ast_signs)] w) (fun _ _ _ hh h => h.of_heap hh) own started (by kernel_rfl) Tryd.func4
    (ChangeSpec.witness_shaped (enc := enc) (C := Tryd.checked) (os := os) (X := fun w _ => laidMetH Tryd.prog [("math/bits.deBruijn32tab", Rows.laid_math_bits_deBruijn32tab), ("math/bits.deBruijn64tab", Rows.laid_math_bits_deBruijn64tab), ("internal/strconv.uint64pow10", Rows.laid_internal_strconv_uint64pow10), ("palings/ast.signs", Rows.laid_palings_ast_signs)] w) false (World.doorLaid Tryd.prog 4000 os) #[.int .i64 0, .int .i64 0] 8 rfl (World.shaped_of_RefB (by kernel_rfl) (by kernel_rfl)) (by kernel_rfl) (by kernel_rfl) (by kernel_rfl) (door_met os _)) ?_
  intro W base args ds gs before hval0 hW _ _ hL _
  have hval : ∀ (j : Nat) t v, Tryd.f4.params[j]? = some t → args[j]? = some v → Value.okWide Tryd.prog W .any base t v := hval0
  have hW' := hW
  obtain ⟨p, q, hA0, hV, rfl, hfz, hnd⟩ := hW
  have hA : DataW.TrodAll enc Tryd.prog W 0 (fun _ => true) true Tryd.f4.params.toList args.toList ds p := hA0
  rw [Tryd.params4] at hA hval
  obtain ⟨v0, vs0, d0, ds0, p0, q0, hargs, rfl, rfl, h0, r0⟩ := trodAll_cons hA
  obtain ⟨v1, vs1, d1, ds1, p1, q1, rfl, rfl, rfl, h1, r1⟩ := trodAll_cons r0
  obtain ⟨rfl, rfl, rfl⟩ := trodAll_nil r1
  obtain rfl : args = #[v0, v1] := by cases args; simp_all
  obtain ⟨rfl, rfl⟩ := trodVars_none hV
  obtain ⟨a0, rfl, rfl, rfl, w0⟩ := open_int Tryd.underlying3 (hval 0 3 v0 rfl rfl) h0
  obtain ⟨a1, rfl, rfl, rfl, w1⟩ := open_int Tryd.underlying3 (hval 1 3 v1 rfl rfl) h1
  clear hA0 hval0
  simp only [List.append_nil] at hW'
  refine (all a0 (bounds_i64 w0) a1 (bounds_i64 w1) W (ground_of (by kernel_rfl) (by simp) (by simp) hL)).mono fun e W' ⟨he, hg⟩ => ?_
  subst he
  exact ⟨_, rfl, post_new hW' (fun _ _ _ => (trodAll_cons_mk (shut_bool Tryd.underlying4 _) trodAll_mk0)) (fun sp => (trodAll_cons_mk (shut_int Tryd.underlying3 w0) (trodAll_cons_mk (shut_int Tryd.underlying3 w1) trodAll_mk0))) (fun _ => rfl) hg (ok_one (by kernel_rfl) rfl (okWide_bool_mk Tryd.underlying4 _))⟩

theorem row_holds : Rows.AstSignsSaid :=
  OpenClaim.holds_of_wide 4 Tryd.f4 rfl rfl rfl rfl rfl rfl rfl ⟨rfl, rfl, rfl, rfl, rfl⟩ rfl rfl rfl rfl rfl (by kernel_rfl) Tryd.func4 (by kernel_rfl)
    (of_decide_eq_true (by kernel_rfl)) (by unfold Func.isWrapper; first | (rw [if_pos (by decide +kernel)]; kernel_rfl) | (rw [if_neg (by decide +kernel)]; exact ⟨rfl, rfl⟩))
    (fun os started H enc _ => lifted os started H enc)

/-- THE TIED CARD. -/
theorem proved : Rows.AstSignsCardSaid :=
  Claim7.holds_tied_plain_at .later [] [.data, .data, .data, .data] true (true, "3932869d0543813055275c9430c6a4b4feda6121de2fa8a8f0cbd93bd9d9dde5") false
    row_holds (fun _ h => by cases h) (by kernel_rfl) (fun _ h => by cases h) astSigns_row_tie rfl ⟨rfl, rfl⟩ (by kernel_rfl) rfl
    (fun f fn hf hfn => by
      obtain rfl : f = 4 := Option.some.inj ((show Tryd.prog.funcNamed "palings/palingslaw03.AstSigns" = some 4 by kernel_rfl).symm.trans hf) |>.symm
      obtain rfl : fn = Tryd.f4 := (Option.some.inj (Tryd.func4.symm.trans hfn)).symm
      exact ⟨by kernel_rfl, fun j t ht => by
        rw [Tryd.params4] at ht
        have hm : t ∈ [3, 3] := by simpa using Array.mem_of_getElem? ht
        have hall : ([3, 3].all fun u => !Tryd.prog.wantsStandIn u) = true := by kernel_rfl
        exact (show Tryd.prog.wantsStandIn t = false by simpa using List.all_eq_true.1 hall t hm)⟩)
    (by kernel_rfl)
#print axioms proved
end Go.Proofs.YtflbaombdihhdaaDoor.astSigns
