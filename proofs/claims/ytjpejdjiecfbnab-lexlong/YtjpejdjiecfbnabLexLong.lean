/-
  LexLong: for every number the law returns true, and its argument reads as before. No condition.
-/
import Derived.Test.YtjpejdjiecfbnabRows
import Derived.Test.YtjpejdjiecfbnabLexG
import Derived.WalkKit
import Derived.ProofKit
import Derived.OpenShut
import Derived.ShutString
namespace Go.Proofs.Ytjpejdjiecfbnab.lexLong
open Go.ChangeShapes Go.WideShapes Go.ChangeAt Go.RowKit
open Go.ChangeMaps (open_string shut_string)
set_option linter.unusedVariables false      -- a walk need not use every 'w<i>' (that an integer argument fits its kind)

theorem own : ownKnob Try.prog.godebug = none := by kernel_rfl

theorem goL_spaces (n : Nat) : ∀ (r : List UInt8) (line col : Int) (acc : List Tok), goL (List.replicate n 32 ++ r) 0 line col acc = goL r 0 line (col + n) acc := by
  induction n with
  | zero => intro r line col acc; simp
  | succ n ih =>
    intro r line col acc
    have e : List.replicate (n + 1) (32 : UInt8) ++ r = 32 :: (List.replicate n 32 ++ r) := by rw [List.replicate_succ]; rfl
    have hg : gapL (32 :: (List.replicate n (32 : UInt8) ++ r)) = 1 := by rfl
    rw [e, goL, if_neg (by rw [hg]; decide), hg, ih]
    have hl : lineB line 32 = line := by rfl
    have hc : colB col 32 = col + 1 := by rfl
    rw [hl, hc]
    congr 1
    omega
theorem span_a (n : Nat) : spanL inNameB (97 :: List.replicate n (32 : UInt8)) = 1 := by
  cases n with
  | zero => rfl
  | succ n => rw [List.replicate_succ]; rfl
theorem gap_a (r : List UInt8) : gapL (97 :: r) = 0 := by
  cases r <;> rfl
theorem tok_a (n : Nat) : tokL (97 :: List.replicate n (32 : UInt8)) = ⟨0, 1, 1, 0⟩ := by
  rw [tokL_letter rfl (by rfl), span_a]
  rfl
theorem lex_long (m n : Nat) : lexL (List.replicate m 32 ++ 97 :: List.replicate n 32) = .ok [⟨1, [97], 0, 1, (m : Int) + 1⟩, ⟨0, [], 0, 1, (m : Int) + n + 2⟩] := by
  unfold lexL
  rw [goL_spaces, goL, if_pos (gap_a _), tok_a, if_pos rfl]
  have hl : lineB 1 97 = 1 := by rfl
  have hc : ∀ col, colB col 97 = col + 1 := fun col => by rfl
  rw [hl, hc]
  show goL (List.replicate n 32) 0 1 _ _ = _
  have e : List.replicate n (32 : UInt8) = List.replicate n 32 ++ [] := by simp
  rw [e, goL_spaces, goL]
  simp
  omega
theorem info5 : (Try.prog.info? 5).map (fun i => (i.zero, i.size, i.bytes)) = some (some (.int .u8 0), 1, 1) := by kernel_rfl

/-- The bytes on the way: the first k are blanks. -/
def Filled (w : World) (N B k : Nat) (wr : World) : Prop :=
  Below w.heap.size w wr ∧ B < wr.heap.size ∧ w.heap.size ≤ B ∧ (∀ j, j < N → wr.cell? ⟨B, j, none⟩ = some (.int .u8 (if j < k then 32 else 0))) ∧ ∀ j, wr.frozen? ⟨B, j, none⟩ = false

theorem filled_start {w w1 w2 : World} {N : Nat} (hb : Below w.heap.size w w1) (hown : w2.ownsRow w1.heap.size 5 1 (.slice (some ⟨w1.heap.size, 0, none⟩) N N) N (madeCells #[Value.int .u8 0] N).toList) (hgrow : w1.grownBy w2 none) :
    Filled w N w1.heap.size 0 w2 := by
  refine ⟨hb.grown hgrow hb.size (fun k hk => by cases hk), (hown.lt _ rfl).2, hb.size, fun j hj => ?_, fun j => hown.frozenAt j⟩
  have add : (⟨w1.heap.size, 0, none⟩ : Addr).add j = ⟨w1.heap.size, j, none⟩ := by unfold Addr.add; split <;> simp_all
  rw [← add]
  refine hown.cells (g := w1.heap.size) rfl j _ ?_
  rw [toList_madeCells_one]
  simp [hj]
theorem filled_step {w wr : World} {N B k : Nat} (h : Filled w N B k wr) (hk : k < N) : Filled w N B (k + 1) (wr.setCell ⟨B, k, none⟩ (.int .u8 32)) := by
  obtain ⟨hb, h1, h2, hc, hf⟩ := h
  refine ⟨hb.setCell h2 _, by simpa using h1, h2, fun j hj => ?_, fun j => by rw [World.frozen?_setCell]; exact hf j⟩
  by_cases e : j = k
  · subst e
    rw [World.cell?_setCell_same _ _ _ (hc j hj)]
    simp
  · rw [World.cell?_setCell_other _ _ _ _ (by first | (simp; done) | (simp; omega)), hc j hj]
    have : (j < k) ↔ (j < k + 1) := by omega
    simp [this]

theorem size_snoc (S : ByteArray) : (S ++ { data := #[32] } : ByteArray).size = S.size + 1 := by rw [ByteArray.size_append]; rfl

/-- The bytes of the text: blanks, and one letter. -/
def nums (N m : Nat) : List Int := (List.range N).map fun j => if j = m then 97 else 32
theorem nums_get (N m i : Nat) (h : i < N) : (nums N m).getD i 0 = if i = m then 97 else 32 := by
  simp [nums, List.getD, h]
theorem split_map (f : Nat → UInt8) (m n : Nat) : (List.range (m + (n + 1))).map f = (List.range m).map f ++ f m :: (List.range n).map (fun j => f (m + 1 + j)) := by
  rw [List.range_add, List.map_append, List.map_map, List.range_succ_eq_map, List.map_cons, List.map_map]
  simp only [Function.comp_def, Nat.add_zero]
  congr 2
  apply List.map_congr_left
  intro j _
  congr 1
  omega
theorem map_rep (f : Nat → UInt8) (c : UInt8) : ∀ n, (∀ j, j < n → f j = c) → (List.range n).map f = List.replicate n c := by
  intro n h
  apply List.ext_getElem
  · simp
  · intro i h1 h2
    simp at h1
    simp [h i h1]
theorem nums_text (N m : Nat) (h : m < N) : (strOfNums (nums N m)).data.toList = List.replicate m 32 ++ 97 :: List.replicate (N - 1 - m) 32 := by
  have e : N = m + ((N - 1 - m) + 1) := by omega
  have e1 : (strOfNums (nums N m)).data.toList = (List.range N).map fun j => if j = m then (97 : UInt8) else 32 := by
    simp only [strOfNums, nums, List.map_map]
    apply List.map_congr_left
    intro j _
    simp only [Function.comp_def]
    split <;> rfl
  rw [e1]
  generalize N - 1 - m = n at e
  subst e
  rw [split_map, map_rep _ 32 m (fun j hj => if_neg (by omega)), map_rep _ 32 n (fun j _ => if_neg (by omega))]
  simp
theorem conv_at {w wr : World} {N B m : Nat} (h : Filled w N B N wr) (hm : m < N) (W : World) (hW : ∀ j, j < N → W.cell? ⟨B, j, none⟩ = some (.int .u8 (if j = m then 97 else 32))) :
    (convert 37 9 (.slice (some ⟨B, 0, none⟩) N N)).run Try.prog W = .ok (.string (strOfNums (nums N m))) W :=
  run_convert_bytes_arg (P := Try.prog) W 37 5 Try.underlying37 Try.underlying5 B 0 N N (nums N m) (by simp [nums]) (fun i hi => by rw [nums_get N m i hi, Nat.zero_add]; exact hW i hi) 9 Try.underlying9
theorem put_cell {w wr : World} {N B m : Nat} (h : Filled w N B N wr) (hm : m < N) : ∀ j, j < N → (wr.setCell ⟨B, m, none⟩ (.int .u8 97)).cell? ⟨B, j, none⟩ = some (.int .u8 (if j = m then 97 else 32)) := by
  intro j hj
  by_cases e : j = m
  · subst e
    rw [World.cell?_setCell_same _ _ _ (h.2.2.2.1 j hj)]
    simp
  · rw [World.cell?_setCell_other _ _ _ _ (by first | (simp; done) | (simp; omega)), h.2.2.2.1 j hj]
    simp [hj, e]

set_option maxHeartbeats 1000000 in
theorem core (n : Int) (N m : Nat) (hN : N = 65536) (hm : m < N) (hbit : bits .and .i64 n 65535 = (m : Int)) (w : World) :
    Calls Try.prog 4 #[.int .i64 n] w fun e w' => e = .returned (.bool true) ∧ Below w.heap.size w w' := by
  obtain ⟨i0, hi, hz0, hz1, hz2⟩ := info_parts info5
  have HI0 := Lib.hid hi; have HZ0 := Lib.hid hz0; have HZ1 := Lib.hid hz1; have HZ2 := Lib.hid hz2
  have HN := Lib.hid hN
  have hn1 : N ≤ 65536 := by omega
  have hn2 : 65536 ≤ N := by omega
  have HBIT := Lib.hid hbit
  clear hi hz0 hz1 hz2 hN hbit
  go_enter Try.func4, Try.ntmps4
  go_wp2_with (fail)
  refine (head_any _).mono ?_; rintro e w1 ⟨rfl, hb1⟩
  go_wp2_with (first | (at_make; refine wpList_make_full _ rfl _ _ 37 rfl w1.heap.size 5 i0 (.int .u8 0) 1 Try.underlying37 HI0.out HZ0.out HZ1.out .i64 .i64 65536 65536 N rfl rfl ?hL ?hC ?b2 ?b3 (Nat.le_refl _) ?_))
  case hL => rw [HN.out]; rfl
  case hC => rw [HN.out]; rfl
  case b2 => rw [HZ2.out]; omega
  case b3 => unfold maxLen; omega
  intro w2 hown hgrow
  have hfill : Filled w N w1.heap.size 0 w2 := filled_start hb1 hown hgrow
  have HF := Lib.hid hfill
  clear hown hgrow hfill
  go_wp2_with (fail)
  go_loopw [14] (fun i wr => ∃ k : Nat, k ≤ N ∧ Filled w N w1.heap.size k wr ∧ i = .int .i64 k) (fun i _ => N - (intOf i).toNat)
  case atStart => exact ⟨0, Nat.zero_le _, HF.out, rfl⟩
  case round =>
    obtain ⟨k, hk, hfl, rfl⟩ := hrel
    have HK := Lib.hid hfl
    have hlt1 := hfl.2.1
    by_cases hlt : k < N
    · have hc := hfl.2.2.2.1 k hlt
      have hf := hfl.2.2.2.2 k
      clear hfl
      go_wp2_with (fail)
      go_roundw
      case rel => exact ⟨k + 1, by omega, filled_step HK.out hlt, by go_num⟩
      case measure => simp [intOf]; omega
    · obtain rfl : N = k := by omega
      have hc := hfl.2.2.2.1 m hm
      have hf := hfl.2.2.2.2 m
      have hbit := HBIT.out
      clear hfl HF
      have hcv := conv_at HK.out hm _ (put_cell HK.out hm)
      have hsz : (strOfNums (nums N m)).size = N := by simp [strOfNums, nums, ByteArray.size]
      have htx := nums_text N m hm
      generalize hst : strOfNums (nums N m) = S at hcv hsz htx
      have HST := Lib.hid hst; clear hst
      have HSZ := Lib.hid hsz; have HTX := Lib.hid htx
      clear htx
      have hS1 : S.size ≤ 65536 := by omega
      have hS2 : 65536 ≤ S.size := by omega
      clear hsz
      go_wp2_with (fail)
      refine (all_ok _ hS1 _ (by rw [HTX.out]; exact lex_long m (N - 1 - m)) (by simp) _).mono ?_
      rintro e w3 ⟨g, cap, rfl, hb3, hg1, hg2, hcap, hcs⟩
      obtain ⟨a0, a1, a2, a3, a4⟩ := hcs 0 _ rfl
      simp only [Nat.mul_zero, Nat.zero_add, List.length_cons, List.length_nil, World.size_setCell] at a0 a1 a2 a3 a4 hb3 hg1 hcap
      have hkeep : ∀ j, j < N → w3.cell? ⟨w1.heap.size, j, none⟩ = some (.int .u8 (if j = m then 97 else 32)) := fun j hj => (hb3.cell (p := ⟨w1.heap.size, j, none⟩) hlt1).trans (put_cell HK.out hm j hj)
      have hw3 : w1.heap.size < w3.heap.size := by have := hb3.size; simp at this; omega
      have hcv2 : ∀ o, (convert 37 9 (.slice (some ⟨w1.heap.size, 0, none⟩) N N)).run Try.prog (w3.alloc o) = .ok (.string (strOfNums (nums N m))) (w3.alloc o) := fun o =>
        conv_at HK.out hm _ (fun j hj => by rw [World.cell?_alloc_lt (h := hw3)]; exact hkeep j hj)
      rw [HST.out] at hcv2
      clear hcs hkeep
      go_wp2_with (fail)
      have hlong := size_snoc S
      refine (all_long _ (by rw [hlong]; omega) (by rw [hlong]; unfold maxLen; omega) _).mono ?_
      rintro e w4 ⟨rfl, hb4⟩
      have hz4 : w3.heap.size + 1 ≤ w4.heap.size := by have := hb4.size; simpa using this
      have d0 := hb4.cell (p := ⟨w3.heap.size, 0, none⟩) (by simp)
      have d1 := hb4.cell (p := ⟨w3.heap.size, 1, none⟩) (by simp)
      have d2 := hb4.cell (p := ⟨w3.heap.size, 2, none⟩) (by simp)
      have hg3 : g < w3.heap.size + 1 := by omega
      have t4 := (hb4.cell (p := ⟨g, 4, none⟩) (by simpa using hg3)).trans ((World.cell?_alloc_lt w3 _ ⟨g, 4, none⟩ hg2).trans a4)
      simp at d0 d1 d2
      have hz5 : w3.heap.size < w4.heap.size := by omega
      have hz6 : g < w4.heap.size := by omega
      clear hlong hcv hcv2 hc hf a0 a1 a2 a3 a4
      go_wp2_with (fail)
      go_ret
      refine ⟨rfl, ?_⟩
      have hB := HK.out.1
      have z0 := hB.size
      have e1 := ((hB.setCell (p := ⟨w1.heap.size, m, none⟩) hb1.size (.int .u8 97)).trans (hb3.mono z0)).alloc (by omega) (.cells #[Value.int IntKind.i64 0, Value.int IntKind.i64 0, Value.int IntKind.i64 0] 28)
      exact (e1.trans (hb4.mono (by simp; omega))).alloc (by omega) _

theorem bit_mod (n : Int) : bits .and .i64 n 65535 = ((n % 65536).toNat : Int) := by
  show IntKind.i64.wrap ((BitVec.ofInt 64 n &&& BitVec.ofInt 64 65535).toNat : Int) = _
  have h16 : (BitVec.ofInt 64 65535).toNat = 65535 := by decide
  have hb : ((BitVec.ofInt 64 n).toNat : Int) = n % 18446744073709551616 := by
    rw [BitVec.toNat_ofInt]
    have e : ((2 ^ 64 : Nat) : Int) = 18446744073709551616 := by decide
    rw [e]; omega
  rw [IntWalk.i64_left, BitVec.toNat_and, h16]
  have e : ∀ x : Nat, x &&& 65535 = x % 65536 := fun x => Nat.and_two_pow_sub_one_eq_mod x 16
  rw [e]
  unfold wrap64
  omega
theorem all (n : Int) (w : World) : Calls Try.prog 4 #[.int .i64 n] w fun e w' => e = .returned (.bool true) ∧ Below w.heap.size w w' :=
  core n 65536 (n % 65536).toNat rfl (by omega) (bit_mod n) w

theorem walk (a0 : Int) (w0 : (Lit.int .i64 a0).wf = true) (w : World) :
    Calls Try.prog 4 #[.int .i64 a0] w fun e w' => e = .returned (.bool true) ∧ Below w.heap.size w w' := by
  exact all a0 w

/-! ### THE ROW's STEP: WRITTEN OUT: LEAVE IT -/
set_option maxRecDepth 100000 in
theorem lifted (os : Os) (started : os.Started) (H : Type) (enc : TypeId × Value → H) :
    ReturnsInHanded {} Try.checked os 4 .any (Rows.lexLongSpec.pre6 enc Try.prog Try.f4 Rows.lexLongRow.domain false) (Rows.lexLongSpec.post enc Try.prog Try.f4 false true false false) := by
  refine returnsInHanded_of_change (C := Try.checked) own started (by kernel_rfl) Try.func4
    (ChangeSpec.witness6 (enc := enc) (C := Try.checked) false ⟨#[], #[.int .i64 0], []⟩ 8 (by kernel_rfl) (by kernel_rfl) (by kernel_rfl) (by kernel_rfl)) ?_
  intro W base args ds gs before hval0 hW hcnd _
  have hval : ∀ (j : Nat) t v, Try.f4.params[j]? = some t → args[j]? = some v → Value.okWide Try.prog W .any base t v := hval0
  have hW' := hW
  obtain ⟨p, q, hA0, hV, rfl, hfz, hnd⟩ := hW
  have hA : DataW.TrodAll enc Try.prog W 0 (fun _ => true) true Try.f4.params.toList args.toList ds p := hA0
  rw [Try.params4] at hA hval
  obtain ⟨v0, vs0, d0, ds0, p0, q0, hargs, rfl, rfl, h0, r0⟩ := trodAll_cons hA
  obtain ⟨rfl, rfl, rfl⟩ := trodAll_nil r0
  obtain rfl : args = #[v0] := by cases args; simp_all
  obtain ⟨rfl, rfl⟩ := trodVars_none hV
  obtain ⟨a0, rfl, rfl, rfl, w0⟩ := open_int Try.underlying3 (hval 0 3 v0 rfl rfl) h0
  clear hA0 hval0
  simp only [List.append_nil] at hW'
  refine (walk a0 w0 W).mono fun e W' ⟨he, hg⟩ => ?_
  subst he
  exact ⟨_, rfl, post_new hW' (fun _ _ _ => (trodAll_cons_mk (shut_bool Try.underlying4 _) trodAll_mk0)) (fun sp => (trodAll_cons_mk (shut_int Try.underlying3 w0) trodAll_mk0)) (fun _ => rfl) hg (ok_one (by kernel_rfl) rfl (okWide_bool_mk Try.underlying4 _))⟩

theorem over : Rows.lexLongRow.holds Try.pinned (OpenSpec.ofChange Rows.lexLongSpec) :=
  OpenClaim.holds_of_wide 4 Try.f4 rfl rfl rfl rfl rfl rfl rfl ⟨rfl, rfl, rfl, rfl, rfl⟩ rfl rfl rfl rfl rfl (by kernel_rfl) Try.func4 (by kernel_rfl)
    (of_decide_eq_true (by kernel_rfl)) (by unfold Func.isWrapper; first | (rw [if_pos (by decide +kernel)]; kernel_rfl) | (rw [if_neg (by decide +kernel)]; exact ⟨rfl, rfl⟩))
    (fun os started H enc _ => lifted os started H enc)

/-- ████ THE STATEMENT ████ -/
theorem proved : Rows.LexLongSaid :=
  over
#print axioms proved
end Go.Proofs.Ytjpejdjiecfbnab.lexLong
