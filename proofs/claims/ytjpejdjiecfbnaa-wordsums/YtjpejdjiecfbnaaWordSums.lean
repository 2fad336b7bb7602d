/-
  WordSums: for every two words the law returns true, and its arguments read as before. No condition.
-/
import Derived.Test.YtjpejdjiecfbnaaRows
import Derived.Test.YtjpejdjiecfbnaaDo
import Derived.Lib.Hide
import Derived.Laws.BitsAll
import Derived.WalkKit
import Derived.ProofKit
import Derived.OpenShut
namespace Go.Proofs.Ytjpejdjiecfbnaa.wordSums
open Go.ChangeShapes Go.WideShapes Go.ChangeAt Go.RowKit
set_option linter.unusedVariables false      -- a walk need not use every 'w<i>' (that an integer argument fits its kind)

theorem own : ownKnob Try.prog.godebug = none := by kernel_rfl

def St (a b : Int) (k : Nat) (S C P : Int) : Prop := ∃ A B s c p : Nat, IntKind.u64.wrap a = A ∧ IntKind.u64.wrap b = B ∧ A < 18446744073709551616 ∧ B < 18446744073709551616 ∧ S = s ∧ C = c ∧ P = p ∧ s < 2 ^ k ∧ c ≤ 1 ∧ s + c * 2 ^ k = A % 2 ^ k + B % 2 ^ k ∧ p = (A * (B % 2 ^ k)) % 18446744073709551616

theorem st_zero (a b : Int) : St a b 0 0 0 0 := by
  refine ⟨(IntKind.u64.wrap a).toNat, (IntKind.u64.wrap b).toNat, 0, 0, 0, ?_, ?_, ?_, ?_, rfl, rfl, rfl, by decide, by decide, ?_, ?_⟩
  · rw [IntKind.wrap_u64]; omega
  · rw [IntKind.wrap_u64]; omega
  · rw [IntKind.wrap_u64]; omega
  · rw [IntKind.wrap_u64]; omega
  · simp [Nat.mod_one]
  · simp [Nat.mod_one]

theorem bit_at (A k : Nat) (h : A < 18446744073709551616) : bits .and .u64 ((A : Int) / 2 ^ k) 1 = ((A / 2 ^ k % 2 : Nat) : Int) := by
  have e : (A : Int) / 2 ^ k = ((A / 2 ^ k : Nat) : Int) := by rw [Int.natCast_ediv, Int.natCast_pow]; rfl
  have := Nat.div_le_self A (2 ^ k)
  rw [e]
  generalize A / 2 ^ k = z at this ⊢
  rw [u64_and _ _ (by omega) (by omega) (by decide) (by decide)]
  have h1 : (1 : Int).toNat = 1 := rfl
  rw [Int.toNat_natCast, h1, Nat.and_one_is_mod]

theorem bits3 (x y c : Nat) (hx : x ≤ 1) (hy : y ≤ 1) (hc : c ≤ 1) : ∃ t m : Nat, t ≤ 1 ∧ m ≤ 1 ∧ t + 2 * m = x + y + c ∧
    bits .xor .u64 (bits .xor .u64 (x : Int) (y : Int)) (c : Int) = (t : Int) ∧
    bits .or .u64 (bits .or .u64 (bits .and .u64 (x : Int) (y : Int)) (bits .and .u64 (x : Int) (c : Int))) (bits .and .u64 (y : Int) (c : Int)) = (m : Int) := by
  have hx' : x = 0 ∨ x = 1 := by omega
  have hy' : y = 0 ∨ y = 1 := by omega
  have hc' : c = 0 ∨ c = 1 := by omega
  rcases hx' with rfl | rfl <;> rcases hy' with rfl | rfl <;> rcases hc' with rfl | rfl
  · exact ⟨0, 0, by decide, by decide, by decide, by decide, by decide⟩
  · exact ⟨1, 0, by decide, by decide, by decide, by decide, by decide⟩
  · exact ⟨1, 0, by decide, by decide, by decide, by decide, by decide⟩
  · exact ⟨0, 1, by decide, by decide, by decide, by decide, by decide⟩
  · exact ⟨1, 0, by decide, by decide, by decide, by decide, by decide⟩
  · exact ⟨0, 1, by decide, by decide, by decide, by decide, by decide⟩
  · exact ⟨0, 1, by decide, by decide, by decide, by decide, by decide⟩
  · exact ⟨1, 1, by decide, by decide, by decide, by decide, by decide⟩

theorem pow_lt64 (k : Nat) (h : k < 64) : 2 ^ k * 2 ≤ 18446744073709551616 := by
  have : 2 ^ (k + 1) ≤ 2 ^ 64 := Nat.pow_le_pow_right (by decide) (by omega)
  rw [Nat.pow_succ] at this
  exact this

theorem or_at (s t k : Nat) (hk : k < 64) (hs : s < 2 ^ k) (ht : t ≤ 1) :
    bits .or .u64 (s : Int) (IntKind.u64.wrap ((t : Int) * 2 ^ k)) = ((s + t * 2 ^ k : Nat) : Int) := by
  have hp := pow_lt64 k hk
  have hp0 : 0 < 2 ^ k := Nat.two_pow_pos k
  have ht2 : t * 2 ^ k ≤ 2 ^ k := by
    have : t = 0 ∨ t = 1 := by omega
    rcases this with rfl | rfl <;> simp
  have e : IntKind.u64.wrap ((t : Int) * 2 ^ k) = ((t * 2 ^ k : Nat) : Int) := by
    have e1 : (t : Int) * 2 ^ k = ((t * 2 ^ k : Nat) : Int) := by rw [Int.natCast_mul, Int.natCast_pow]; rfl
    rw [e1, IntKind.wrap_u64]; omega
  rw [e, u64_or _ _ (by omega) (by omega) (by omega) (by omega), Int.toNat_natCast, Int.toNat_natCast]
  have := Nat.two_pow_add_eq_or_of_lt hs t
  rw [Nat.or_comm, Nat.mul_comm t, ← this, Nat.add_comm]

theorem mod_succ (A k : Nat) : A % 2 ^ (k + 1) = A % 2 ^ k + 2 ^ k * (A / 2 ^ k % 2) := Nat.mod_pow_succ

theorem st_step (a b : Int) (k : Nat) (S C P : Int) (hk : k < 64) (h : St a b k S C P) (P' : Int)
    (hP : (bits .and .u64 (IntKind.u64.wrap b / 2 ^ k) 1 == 1) = true ∧ P' = IntKind.u64.wrap (P + IntKind.u64.wrap (IntKind.u64.wrap a * 2 ^ k)) ∨ (bits .and .u64 (IntKind.u64.wrap b / 2 ^ k) 1 == 1) = false ∧ P' = P) :
    St a b (k + 1)
      (bits .or .u64 S (IntKind.u64.wrap (bits .xor .u64 (bits .xor .u64 (bits .and .u64 (IntKind.u64.wrap a / 2 ^ k) 1) (bits .and .u64 (IntKind.u64.wrap b / 2 ^ k) 1)) C * 2 ^ k)))
      (bits .or .u64 (bits .or .u64 (bits .and .u64 (bits .and .u64 (IntKind.u64.wrap a / 2 ^ k) 1) (bits .and .u64 (IntKind.u64.wrap b / 2 ^ k) 1)) (bits .and .u64 (bits .and .u64 (IntKind.u64.wrap a / 2 ^ k) 1) C)) (bits .and .u64 (bits .and .u64 (IntKind.u64.wrap b / 2 ^ k) 1) C))
      P' := by
  obtain ⟨A, B, s, c, p, hA, hB, lA, lB, rfl, rfl, rfl, hs, hc, hsum, hp⟩ := h
  rw [hA, hB, bit_at B k lB] at hP
  rw [hA, hB, bit_at A k lA, bit_at B k lB]
  have hx : A / 2 ^ k % 2 ≤ 1 := by omega
  have hy : B / 2 ^ k % 2 ≤ 1 := by omega
  obtain ⟨t, m, ht, hm, htm, e1, e2⟩ := bits3 _ _ c hx hy hc
  have mA := mod_succ A k
  have mB := mod_succ B k
  have hq : ∃ p' : Nat, P' = p' ∧ p' = (A * (B % 2 ^ (k + 1))) % 18446744073709551616 := by
    rw [mB, Nat.mul_add]
    rcases hP with ⟨h1, rfl⟩ | ⟨h1, rfl⟩
    · have y1 : B / 2 ^ k % 2 = 1 := by
        have := eq_of_beq h1
        omega
      rw [y1, Nat.mul_one]
      refine ⟨_, ?_, rfl⟩
      have e3 : (A : Int) * 2 ^ k = ((A * 2 ^ k : Nat) : Int) := by rw [Int.natCast_mul, Int.natCast_pow]; rfl
      rw [e3, IntKind.wrap_u64, IntKind.wrap_u64, hp]
      generalize A * 2 ^ k = u
      generalize A * (B % 2 ^ k) = v
      omega
    · have y0 : B / 2 ^ k % 2 = 0 := by
        have := ne_of_beq_false h1
        omega
      rw [y0, Nat.mul_zero, Nat.mul_zero, Nat.add_zero]
      exact ⟨_, rfl, hp⟩
  obtain ⟨p', e3, e4⟩ := hq
  refine ⟨A, B, s + t * 2 ^ k, m, p', hA, hB, lA, lB, ?_, ?_, e3, ?_, hm, ?_, e4⟩
  · rw [e1]; exact or_at s t k hk hs ht
  · exact e2
  · rw [Nat.pow_succ]
    have : t = 0 ∨ t = 1 := by omega
    rcases this with rfl | rfl <;> omega
  · rw [mA, mB, Nat.pow_succ]
    generalize 2 ^ k = z at *
    generalize A / z % 2 = x at *
    generalize B / z % 2 = y at *
    have e5 : s + t * z + m * (z * 2) = s + (t + 2 * m) * z := by
      rw [Nat.add_mul, Nat.mul_comm z 2, ← Nat.mul_assoc, Nat.mul_comm m 2, Nat.add_assoc]
    rw [e5, htm, Nat.add_mul, Nat.add_mul, Nat.mul_comm z x, Nat.mul_comm z y]
    omega

theorem wrap64_bmod (n : Int) : wrap64 n = n.bmod 18446744073709551616 := by
  unfold wrap64; simp only [Int.bmod]; split <;> omega

theorem st_end (a b S C P : Int) (ha : -9223372036854775808 ≤ a ∧ a ≤ 9223372036854775807) (h : St a b 64 S C P) :
    (IntKind.u64.wrap (wrap64 (a + b)) == S) = true ∧ (wrap64 (wrap64 (a + b) - b) == a) = true ∧ (IntKind.u64.wrap (wrap64 (a * b)) == P) = true := by
  obtain ⟨A, B, s, c, p, hA, hB, lA, lB, rfl, rfl, rfl, hs, hc, hsum, hp⟩ := h
  rw [IntKind.wrap_u64] at hA hB
  have hA' : A % 2 ^ 64 = A := Nat.mod_eq_of_lt lA
  have hB' : B % 2 ^ 64 = B := Nat.mod_eq_of_lt lB
  rw [hA', hB'] at hsum
  rw [hB'] at hp
  refine ⟨?_, ?_, ?_⟩
  · rw [beq_iff_eq, IntKind.wrap_u64]; unfold wrap64; omega
  · rw [beq_iff_eq]; unfold wrap64; omega
  · rw [beq_iff_eq, IntKind.wrap_u64, hp]
    have e : (a * b) % 18446744073709551616 = (((A * B) % 18446744073709551616 : Nat) : Int) := by
      rw [Int.mul_emod, hA, hB]
      rfl
    rw [← e]
    generalize a * b = z
    unfold wrap64; omega
set_option maxRecDepth 100000 in
theorem core (a b : Int) (ha : -9223372036854775808 ≤ a ∧ a ≤ 9223372036854775807) (w : World) :
    Calls Try.prog 3 #[.int .i64 a, .int .i64 b] w fun e w' => e = .returned (.bool true) ∧ w = w' := by
  have Ha := Lib.hid ha; clear ha
  go_enter Try.func3, Try.ntmps3
  go_wp2_with (fail)
  refine (head_any _).mono ?_; rintro e w' ⟨rfl, rfl⟩
  go_wp2_with (fail)
  go_loop [5, 6, 7, 8] (fun s c p i => ∃ k : Nat, k ≤ 64 ∧ i = .int .i64 k ∧ ∃ S C P : Int, St a b k S C P ∧ s = .int .u64 S ∧ c = .int .u64 C ∧ p = .int .u64 P) (fun _ _ _ i => 64 - (intOf i).toNat)
  case atStart => exact ⟨0, by omega, rfl, 0, 0, 0, st_zero a b, rfl, rfl, rfl⟩
  case round =>
    obtain ⟨k, hk, rfl, S, C, P, hst, rfl, rfl, rfl⟩ := hrel
    have HS := Lib.hid hst; clear hst
    by_cases hlt : k < 64
    · go_wp2_with (fail)
      · go_round
        case rel => exact ⟨k + 1, by omega, by go_num, _, _, _, st_step a b k S C P hlt HS.out _ (Or.inl ⟨‹_›, rfl⟩), rfl, rfl, rfl⟩
        case measure => simp [intOf]; omega
      · go_round
        case rel => exact ⟨k + 1, by omega, by go_num, _, _, _, st_step a b k S C P hlt HS.out _ (Or.inr ⟨‹_›, rfl⟩), rfl, rfl, rfl⟩
        case measure => simp [intOf]; omega
    · obtain rfl : k = 64 := by omega
      obtain ⟨h1, h2, h3⟩ := st_end a b S C P Ha.out HS.out
      go_wp2_with (first | (go_at_call 9; (with_reducible refine (do_add _ _ _).mono ?_); rintro e w' ⟨rfl, rfl⟩) | (go_at_call 9; (with_reducible refine (do_sub _ _ _).mono ?_); rintro e w' ⟨rfl, rfl⟩)| (go_at_call 9; (with_reducible refine (do_mul _ _ _).mono ?_); rintro e w' ⟨rfl, rfl⟩))
      go_ret
      exact ⟨rfl, rfl⟩

theorem walk (a0 : Int) (a1 : Int) (w0 : (Lit.int .i64 a0).wf = true) (w1 : (Lit.int .i64 a1).wf = true) (w : World) :
    Calls Try.prog 3 #[.int .i64 a0, .int .i64 a1] w fun e w' => e = .returned (.bool true) ∧ Grown w w' := by
  have b0 := bounds_i64 w0
  exact (core a0 a1 b0 w).mono fun e w' ⟨he, hw⟩ => ⟨he, hw ▸ Grown.refl _⟩

/-! ### THE ROW's STEP: WRITTEN OUT: LEAVE IT -/
set_option maxRecDepth 100000 in
theorem lifted (os : Os) (started : os.Started) (H : Type) (enc : TypeId × Value → H) :
    ReturnsInHanded {} Try.checked os 3 .any (Rows.wordSumsSpec.pre6 enc Try.prog Try.f3 Rows.wordSumsRow.domain false) (Rows.wordSumsSpec.post enc Try.prog Try.f3 false true false false) := by
  refine returnsInHanded_of_change (C := Try.checked) own started (by kernel_rfl) Try.func3
    (ChangeSpec.witness6 (enc := enc) (C := Try.checked) false ⟨#[], #[.int .i64 0, .int .i64 0], []⟩ 8 (by kernel_rfl) (by kernel_rfl) (by kernel_rfl) (by kernel_rfl)) ?_
  intro W base args ds gs before hval0 hW hcnd _
  have hval : ∀ (j : Nat) t v, Try.f3.params[j]? = some t → args[j]? = some v → Value.okWide Try.prog W .any base t v := hval0
  have hW' := hW
  obtain ⟨p, q, hA0, hV, rfl, hfz, hnd⟩ := hW
  have hA : DataW.TrodAll enc Try.prog W 0 (fun _ => true) true Try.f3.params.toList args.toList ds p := hA0
  rw [Try.params3] at hA hval
  obtain ⟨v0, vs0, d0, ds0, p0, q0, hargs, rfl, rfl, h0, r0⟩ := trodAll_cons hA
  obtain ⟨v1, vs1, d1, ds1, p1, q1, rfl, rfl, rfl, h1, r1⟩ := trodAll_cons r0
  obtain ⟨rfl, rfl, rfl⟩ := trodAll_nil r1
  obtain rfl : args = #[v0, v1] := by cases args; simp_all
  obtain ⟨rfl, rfl⟩ := trodVars_none hV
  obtain ⟨a0, rfl, rfl, rfl, w0⟩ := open_int Try.underlying2 (hval 0 2 v0 rfl rfl) h0
  obtain ⟨a1, rfl, rfl, rfl, w1⟩ := open_int Try.underlying2 (hval 1 2 v1 rfl rfl) h1
  clear hA0 hval0
  simp only [List.append_nil] at hW'
  refine (walk a0 a1 w0 w1 W).mono fun e W' ⟨he, hg⟩ => ?_
  subst he
  exact ⟨_, rfl, post_of_same (pa := []) (pv := []) hW' (fun _ _ _ => (trodAll_cons_mk (shut_bool Try.underlying4 _) trodAll_mk0)) (fun sp _ => (trodAll_cons_mk (shut_int Try.underlying2 w0) (trodAll_cons_mk (shut_int Try.underlying2 w1) trodAll_mk0))) (fun _ _ => rfl) rfl
    (hg.frame _) hg.2.1 (ok_one (by kernel_rfl) rfl (okWide_bool_mk Try.underlying4 _))⟩

theorem over : Rows.wordSumsRow.holds Try.pinned (OpenSpec.ofChange Rows.wordSumsSpec) :=
  OpenClaim.holds_of_wide 3 Try.f3 rfl rfl rfl rfl rfl rfl rfl ⟨rfl, rfl, rfl, rfl, rfl⟩ rfl rfl rfl rfl rfl (by kernel_rfl) Try.func3 (by kernel_rfl)
    (of_decide_eq_true (by kernel_rfl)) (by unfold Func.isWrapper; first | (rw [if_pos (by decide +kernel)]; kernel_rfl) | (rw [if_neg (by decide +kernel)]; exact ⟨rfl, rfl⟩))
    (fun os started H enc _ => lifted os started H enc)

/-- ████ THE STATEMENT ████ -/
theorem proved : Rows.WordSumsSaid :=
  over
#print axioms proved
end Go.Proofs.Ytjpejdjiecfbnaa.wordSums
