/-
  The checker: call, expr.
-/
import Derived.Test.YtffgioifjdpajaaGreatDoorChkE
namespace Go.Proofs.YtffgioifjdpajaaGreatDoor
open Go.ChangeShapes Go.WideShapes Go.ChangeAt Go.RowKit
set_option linter.unusedVariables false

theorem fn_at {w : World} {S : Nat → Prop} {fs : List Fn} {fv : Value} (h : FnsAt w S fs fv) {j : Nat} (hj : j < fs.length) : ∃ g o cap pa pc, fv = .slice (some ⟨g, o, none⟩) fs.length cap ∧ g < w.heap.size ∧ fs.length ≤ cap ∧ fs.length ≤ 4611686018427387904 ∧ w.cell? ⟨g, o + j * 5 + 1, none⟩ = some (.slice pa (fs.getD j noFn).params.length pc) := by
  rcases h with ⟨rfl, _⟩ | ⟨_, g, o, cap, rfl, _, hlt, h1, h2, h3⟩
  · simp at hj
  · obtain ⟨cs, ⟨pv, bv, rfl, hp, _⟩, hc⟩ := h3 j fs[j] (List.getElem?_eq_getElem hj)
    have := hc 1 (by decide)
    rw [show o + (5 * j + 1) = o + j * 5 + 1 by omega] at this
    rcases hp with ⟨hp, a, cap', rfl⟩ | ⟨_, g', o', cap', rfl, _⟩
    · refine ⟨g, o, cap, a, cap', rfl, hlt, h1, h2, ?_⟩
      rw [this, List.getD_eq_getElem?_getD, List.getElem?_eq_getElem hj]
      simp [cellsF, hp]
    · refine ⟨g, o, cap, some ⟨g', o', none⟩, cap', rfl, hlt, h1, h2, ?_⟩
      rw [this, List.getD_eq_getElem?_getD, List.getElem?_eq_getElem hj]
      rfl
theorem Turn.drew {X : Nat → Prop} {w w' : World} (h : Turn X w w') : Turn X w w'.drew := ⟨h.os, h.tape, h.output, h.size, h.block⟩
theorem Checks.drew {base C G F : Nat} {lv : Value} {k : Ck} {w : World} (h : Checks base C G F lv k w) : Checks base C G F lv k w.drew := h.keep (X := fun _ => False) (Turn.refl _ w).drew (fun _ q => q.elim)
set_option maxHeartbeats 2000000 in
set_option maxRecDepth 100000 in
theorem call_none {line col num : Int} {name : List UInt8} {op : Int} {kids : List Ex} (hn : name.length ≤ 65536) {base C G F : Nat} {lv : Value} {k : Ck} {w : World} (cs : Array Value) (h : Checks base C G F lv k w) (hat : (Ex.mk 5 line col num name op kids).At w (· < base) cs) (hl : look k.fm name = none) :
    Calls Tryz.prog 83 #[.pointer (some ⟨C, 0, none⟩), .agg cs] w (CkPost base C G F lv (k.fail 21 line col) (.int .i64 0) w) := by
  obtain ⟨_, v, rfl, hk⟩ := at_kids_of hat
  obtain ⟨a, cap, rfl, _⟩ := kids_parts hk
  have hlen : name.length ≤ maxLen := by unfold maxLen; omega
  obtain ⟨gv, fv, hlt, _, _, c0, c1, c2, c3, c4, _, _, _, _⟩ := (h.alloc (.cells (cells7 5 line col num name op (.slice a kids.length cap)) 51)).open
  obtain ⟨_, l2, _⟩ := (h.alloc (.cells (cells7 5 line col num name op (.slice a kids.length cap)) 51)).looks hlen
  rw [hl] at l2
  simp only [Option.getD_none, Option.isSome_none] at l2
  obtain ⟨e0, e1, e2, e3, e4, e5, e6⟩ := own7 (alloc_at w (.cells (cells7 5 line col num name op (.slice a kids.length cap)) 51) _ rfl)
  have hs1 : w.heap.size < (w.alloc (.cells (cells7 5 line col num name op (.slice a kids.length cap)) 51)).heap.size := by simp
  have HC := Lib.hid (h.alloc (.cells (cells7 5 line col num name op (.slice a kids.length cap)) 51))
  have HT := Lib.hid ((Turn.refl (· = C) w).alloc (.cells (cells7 5 line col num name op (.slice a kids.length cap)) 51))
  have HL2 := Lib.hid (show (Instr.lookup 28 (.map (some F)) (.string ⟨name.toArray⟩) true).run Tryz.prog (w.alloc (.cells (cells7 5 line col num name op (.slice a kids.length cap)) 51)).drew = .ok (.tuple #[.int .i64 0, .bool false]) (w.alloc (.cells (cells7 5 line col num name op (.slice a kids.length cap)) 51)).drew by
    have := ((h.alloc (.cells (cells7 5 line col num name op (.slice a kids.length cap)) 51)).fm.keep (w' := (w.alloc (.cells (cells7 5 line col num name op (.slice a kids.length cap)) 51)).drew) rfl).look wInt uMapI hlen
    rw [hl] at this
    exact this)
  clear h hat hk hn hlen hl
  unfold cells7
  go_enter Tryz.func83, Tryz.ntmps83
  go_upto_region 1 with (fail)
  change Code.wp _ _ _ _ (w.alloc (.cells (cells7 5 line col num name op (.slice a kids.length cap)) 51))
  generalize w.alloc (.cells (cells7 5 line col num name op (.slice a kids.length cap)) 51) = W at *
  have l2' : (Instr.lookup 28 (.map (some F)) (.string ⟨name.toArray⟩) true).run Tryz.prog W.drew = .ok (.tuple #[.int .i64 0, .bool false]) W.drew := HL2.out
  clear l2
  go_region
  go_wp2_with (fail)
  refine (ckfail_any HC.out.drew 21 line col).mono ?_
  rintro e w2 ⟨rfl, ht2, hc2⟩
  have HT2 := Lib.hid ht2; have HC2 := Lib.hid hc2
  clear ht2 hc2
  go_wp2_with (fail)
  go_ret
  exact ⟨rfl, HT.out.drew.trans HT2.out, HC2.out⟩
set_option maxHeartbeats 4000000 in
set_option maxRecDepth 100000 in
theorem call_some {line col num : Int} {name : List UInt8} {op : Int} {kids : List Ex} (hn : name.length ≤ 65536) (hex : ∀ i (h : i < kids.length), ExOk kids[i]) {base C G F : Nat} {lv : Value} {k : Ck} {w : World} (cs : Array Value) (h : Checks base C G F lv k w) (hat : (Ex.mk 5 line col num name op kids).At w (· < base) cs) (i : Int) (hl : look k.fm name = some i) :
    Calls Tryz.prog 83 #[.pointer (some ⟨C, 0, none⟩), .agg cs] w (CkPost base C G F lv (ckKids kids 1 (k.unless (kids.length == (k.fnAt i).params.length) 23 line col)) (.int .i64 1) w) := by
  obtain ⟨j, rfl, hj⟩ := h.fi name i hl
  have HAT := Lib.hid hat
  obtain ⟨_, v, rfl, hk⟩ := at_kids_of hat
  obtain ⟨a, cap, rfl, hmx, _⟩ := kids_parts hk
  have hlen : name.length ≤ maxLen := by unfold maxLen; omega
  have hC := h.alloc (.cells (cells7 5 line col num name op (.slice a kids.length cap)) 51)
  have hT := (Turn.refl (· = C) w).alloc (.cells (cells7 5 line col num name op (.slice a kids.length cap)) 51)
  have hA := At.alloc HAT.out (.cells (cells7 5 line col num name op (.slice a kids.length cap)) 51)
  have hB := alloc_at w (.cells (cells7 5 line col num name op (.slice a kids.length cap)) 51) _ rfl
  have hlow := h.low.1
  have hlt0 : C < w.heap.size := by obtain ⟨_, _, q, _⟩ := h.open; exact q
  have HEX := Lib.hid hex
  clear h hat hk hn hex HAT
  unfold cells7
  go_enter Tryz.func83, Tryz.ntmps83
  go_upto_region 1 with (fail)
  change Code.wp _ _ _ _ (w.alloc (.cells (cells7 5 line col num name op (.slice a kids.length cap)) 51))
  generalize hWW : w.alloc (.cells (cells7 5 line col num name op (.slice a kids.length cap)) 51) = W at *
  clear hWW
  obtain ⟨gv, fv, hlt, _, hfn, c0, c1, c2, c3, c4, _, _, _, _⟩ := hC.open
  obtain ⟨e0, e1, e2, e3, e4, e5, e6⟩ := own7 hB
  have hs1 : w.heap.size < W.heap.size := (Array.getElem?_eq_some_iff.1 hB).1
  obtain ⟨fg, fo, fcap, pa, pc, rfl, hfg, hfcap, hfmax, hpar⟩ := fn_at hfn hj
  have l2' := (hC.fm.keep (w' := W.drew) rfl).look wInt uMapI hlen
  rw [hl] at l2'
  simp only [Option.getD_some, Option.isSome_some] at l2'
  have HFA := Lib.hid (show k.fnAt (j : Int) = k.fs.getD j noFn by unfold Ck.fnAt; rw [Int.toNat_natCast])
  have HC := Lib.hid hC; have HT := Lib.hid hT; have HA := Lib.hid hA; have HB := Lib.hid hB
  clear hC hT hA hB hfn hl hlen
  go_region
  go_upto_region 5 with (fail)
  have HSELF := Lib.hid (fun k1 : Ck => show k1.unless (kids.length == kids.length) 40 line col = k1 by simp [Ck.unless])
  rcases Nat.decEq kids.length (k.fs.getD j noFn).params.length with hq | hq
  · have HV := Lib.hid (show k.unless (kids.length == (k.fnAt (j : Int)).params.length) 23 line col = k.fail 23 line col by
      rw [HFA.out]; unfold Ck.unless; rw [if_neg (by simpa using hq)])
    generalize (k.fs.getD j noFn).params.length = pn at *
    have q1 : ((kids.length : Int) != (pn : Int)) = true := by simp; omega
    clear hq
    go_region
    all_goals go_wp2_with (fail)
    refine (ckfail_any HC.out.drew.drew 23 line col).mono ?_
    rintro e w2 ⟨rfl, ht2, hc2⟩
    have hbx : w2.heap[w.heap.size]? = some (.cells (cells7 5 line col num name op (.slice a kids.length cap)) 51 (0, 0)) := (ht2.block w.heap.size hs1 (by omega)).trans HB.out
    obtain ⟨d0, d1, d2, d3, d4, d5, d6⟩ := own7 hbx
    have hsz : w.heap.size < w2.heap.size := (Array.getElem?_eq_some_iff.1 hbx).1
    have HT2 := Lib.hid ht2; have HC2 := Lib.hid hc2
    have HA2 := Lib.hid (At.turn (At.turn HA.out (Turn.refl (· = C) W).drew.drew (fun q hq => by subst hq; exact hlow)) ht2 (fun q hq => by subst hq; exact hlow))
    clear ht2 hc2 hbx
    go_wp2_with (fail)
    refine (ckkids_any HEX.out _ kids.length hmx 1 HC2.out HA2.out).mono ?_
    rintro e w3 ⟨rfl, ht3, hc3⟩
    have HT3 := Lib.hid ht3; have HC3 := Lib.hid hc3
    clear ht3 hc3
    go_wp2_with (fail)
    go_ret
    exact ⟨rfl, (HT.out.drew.drew.trans HT2.out).trans HT3.out, by rw [HV.out]; have := HC3.out; rw [HSELF.out] at this; exact this⟩
  · have HV := Lib.hid (show k.unless (kids.length == (k.fnAt (j : Int)).params.length) 23 line col = k by
      rw [HFA.out]; unfold Ck.unless; rw [if_pos (by simpa using hq)])
    generalize (k.fs.getD j noFn).params.length = pn at *
    have q1 : ((kids.length : Int) != (pn : Int)) = false := by simp; omega
    clear hq
    go_region
    all_goals go_wp2_with (fail)
    refine (ckkids_any HEX.out _ kids.length hmx 1 HC.out.drew.drew (At.turn HA.out (Turn.refl (· = C) W).drew.drew (fun q hq => by subst hq; exact hlow))).mono ?_
    rintro e w3 ⟨rfl, ht3, hc3⟩
    have HT3 := Lib.hid ht3; have HC3 := Lib.hid hc3
    clear ht3 hc3
    go_wp2_with (fail)
    go_ret
    exact ⟨rfl, HT.out.drew.drew.trans HT3.out, by rw [HV.out]; have := HC3.out; rw [HSELF.out] at this; exact this⟩

/-- What expr does of one kind: the theorems below, kind by kind. -/
def ExAt (kind : Int) : Prop := ∀ (line col num : Int) (name : List UInt8) (op : Int) (kids : List Ex), name.length ≤ 65536 → (∀ i (h : i < kids.length), ExOk kids[i]) → ExOk (.mk kind line col num name op kids)
set_option maxHeartbeats 1000000 in
set_option maxRecDepth 100000 in
theorem expr_num : ExAt 1 := by
  intro line col num name op kids hn hex base C G F lv k w cs h hat
  have HE := Lib.hid (show ckExpr (.mk 1 line col num name op kids) k = (1, k) by simp [ckExpr])
  rw [HE.out]
  dsimp only
  have HAT := Lib.hid hat
  obtain ⟨_, v, rfl, hk⟩ := at_kids_of hat
  obtain ⟨a, cap, rfl, _⟩ := kids_parts hk
  have HC := Lib.hid h; have HEX := Lib.hid hex; have HN := Lib.hid hn
  clear h hat hk hex hn HE
  unfold cells7
  go_enter Tryz.func69, Tryz.ntmps69
  go_wp2_with (fail)
  go_ret
  exact ⟨rfl, (Turn.refl (· = C) w).alloc _, HC.out.alloc _⟩
set_option maxHeartbeats 1000000 in
set_option maxRecDepth 100000 in
theorem expr_truth : ExAt 2 := by
  intro line col num name op kids hn hex base C G F lv k w cs h hat
  have HE := Lib.hid (show ckExpr (.mk 2 line col num name op kids) k = (2, k) by simp [ckExpr])
  rw [HE.out]
  dsimp only
  have HAT := Lib.hid hat
  obtain ⟨_, v, rfl, hk⟩ := at_kids_of hat
  obtain ⟨a, cap, rfl, _⟩ := kids_parts hk
  have HC := Lib.hid h; have HEX := Lib.hid hex; have HN := Lib.hid hn
  clear h hat hk hex hn HE
  unfold cells7
  go_enter Tryz.func69, Tryz.ntmps69
  go_wp2_with (fail)
  go_ret
  exact ⟨rfl, (Turn.refl (· = C) w).alloc _, HC.out.alloc _⟩
set_option maxHeartbeats 1000000 in
set_option maxRecDepth 100000 in
theorem expr_var : ExAt 3 := by
  intro line col num name op kids hn hex base C G F lv k w cs h hat
  have HE := Lib.hid (show ckExpr (.mk 3 line col num name op kids) k = (k.variable name, k.unless (!(k.variable name == 0)) 21 line col) by simp [ckExpr])
  rw [HE.out]
  dsimp only
  have HAT := Lib.hid hat
  obtain ⟨_, v, rfl, hk⟩ := at_kids_of hat
  obtain ⟨a, cap, rfl, _⟩ := kids_parts hk
  have HC := Lib.hid h; have HEX := Lib.hid hex; have HN := Lib.hid hn
  clear h hat hk hex hn HE
  unfold cells7
  go_enter Tryz.func69, Tryz.ntmps69
  go_wp2_with (fail)
  refine (value_any HN.out _ (HC.out.alloc _) (At.alloc HAT.out _)).mono ?_
  rintro e w2 ⟨rfl, ht2, hc2⟩
  have HT2 := Lib.hid ht2; have HC2 := Lib.hid hc2
  clear ht2 hc2
  go_wp2_with (fail)
  go_ret
  exact ⟨rfl, ((Turn.refl (· = C) w).alloc _).trans HT2.out, HC2.out⟩
set_option maxHeartbeats 1000000 in
set_option maxRecDepth 100000 in
theorem expr_index : ExAt 4 := by
  intro line col num name op kids hn hex base C G F lv k w cs h hat
  have HE := Lib.hid (show ckExpr (.mk 4 line col num name op kids) k = (1, ckKids kids 1 ((k.unless (k.array name) 21 line col).unless (kids.length == 1) 40 line col)) by simp [ckExpr])
  rw [HE.out]
  dsimp only
  have HAT := Lib.hid hat
  obtain ⟨_, v, rfl, hk⟩ := at_kids_of hat
  obtain ⟨a, cap, rfl, _⟩ := kids_parts hk
  have HC := Lib.hid h; have HEX := Lib.hid hex; have HN := Lib.hid hn
  clear h hat hk hex hn HE
  unfold cells7
  go_enter Tryz.func69, Tryz.ntmps69
  go_wp2_with (fail)
  refine (index_any HN.out HEX.out _ (HC.out.alloc _) (At.alloc HAT.out _)).mono ?_
  rintro e w2 ⟨rfl, ht2, hc2⟩
  have HT2 := Lib.hid ht2; have HC2 := Lib.hid hc2
  clear ht2 hc2
  go_wp2_with (fail)
  go_ret
  exact ⟨rfl, ((Turn.refl (· = C) w).alloc _).trans HT2.out, HC2.out⟩
set_option maxHeartbeats 1000000 in
set_option maxRecDepth 100000 in
theorem expr_both : ExAt 6 := by
  intro line col num name op kids hn hex base C G F lv k w cs h hat
  have HE := Lib.hid (show ckExpr (.mk 6 line col num name op kids) k = (bothT op, (ckKids kids 1 (k.unless (kids.length == 2) 40 line col)).unless (knownOp op && !(op == 15)) 40 line col) by simp [ckExpr])
  rw [HE.out]
  dsimp only
  have HAT := Lib.hid hat
  obtain ⟨_, v, rfl, hk⟩ := at_kids_of hat
  obtain ⟨a, cap, rfl, _⟩ := kids_parts hk
  have HC := Lib.hid h; have HEX := Lib.hid hex; have HN := Lib.hid hn
  clear h hat hk hex hn HE
  unfold cells7
  go_enter Tryz.func69, Tryz.ntmps69
  go_wp2_with (fail)
  refine (both_ck HEX.out _ (HC.out.alloc _) (At.alloc HAT.out _)).mono ?_
  rintro e w2 ⟨rfl, ht2, hc2⟩
  have HT2 := Lib.hid ht2; have HC2 := Lib.hid hc2
  clear ht2 hc2
  go_wp2_with (fail)
  go_ret
  exact ⟨rfl, ((Turn.refl (· = C) w).alloc _).trans HT2.out, HC2.out⟩
set_option maxHeartbeats 1000000 in
set_option maxRecDepth 100000 in
theorem expr_and : ExAt 7 := by
  intro line col num name op kids hn hex base C G F lv k w cs h hat
  have HE := Lib.hid (show ckExpr (.mk 7 line col num name op kids) k = (2, ckKids kids 2 (k.unless (kids.length == 2) 40 line col)) by simp [ckExpr])
  rw [HE.out]
  dsimp only
  have HAT := Lib.hid hat
  obtain ⟨_, v, rfl, hk⟩ := at_kids_of hat
  obtain ⟨a, cap, rfl, _⟩ := kids_parts hk
  have HC := Lib.hid h; have HEX := Lib.hid hex; have HN := Lib.hid hn
  clear h hat hk hex hn HE
  unfold cells7
  go_enter Tryz.func69, Tryz.ntmps69
  go_wp2_with (fail)
  refine (ckkids_any HEX.out _ 2 (by omega) 2 (HC.out.alloc _) (At.alloc HAT.out _)).mono ?_
  rintro e w2 ⟨rfl, ht2, hc2⟩
  have HT2 := Lib.hid ht2; have HC2 := Lib.hid hc2
  clear ht2 hc2
  go_wp2_with (fail)
  go_ret
  exact ⟨rfl, ((Turn.refl (· = C) w).alloc _).trans HT2.out, HC2.out⟩
set_option maxHeartbeats 1000000 in
set_option maxRecDepth 100000 in
theorem expr_or : ExAt 8 := by
  intro line col num name op kids hn hex base C G F lv k w cs h hat
  have HE := Lib.hid (show ckExpr (.mk 8 line col num name op kids) k = (2, ckKids kids 2 (k.unless (kids.length == 2) 40 line col)) by simp [ckExpr])
  rw [HE.out]
  dsimp only
  have HAT := Lib.hid hat
  obtain ⟨_, v, rfl, hk⟩ := at_kids_of hat
  obtain ⟨a, cap, rfl, _⟩ := kids_parts hk
  have HC := Lib.hid h; have HEX := Lib.hid hex; have HN := Lib.hid hn
  clear h hat hk hex hn HE
  unfold cells7
  go_enter Tryz.func69, Tryz.ntmps69
  go_wp2_with (fail)
  refine (ckkids_any HEX.out _ 2 (by omega) 2 (HC.out.alloc _) (At.alloc HAT.out _)).mono ?_
  rintro e w2 ⟨rfl, ht2, hc2⟩
  have HT2 := Lib.hid ht2; have HC2 := Lib.hid hc2
  clear ht2 hc2
  go_wp2_with (fail)
  go_ret
  exact ⟨rfl, ((Turn.refl (· = C) w).alloc _).trans HT2.out, HC2.out⟩
set_option maxHeartbeats 1000000 in
set_option maxRecDepth 100000 in
theorem expr_not : ExAt 9 := by
  intro line col num name op kids hn hex base C G F lv k w cs h hat
  have HE := Lib.hid (show ckExpr (.mk 9 line col num name op kids) k = (2, ckKids kids 2 (k.unless (kids.length == 1) 40 line col)) by simp [ckExpr])
  rw [HE.out]
  dsimp only
  have HAT := Lib.hid hat
  obtain ⟨_, v, rfl, hk⟩ := at_kids_of hat
  obtain ⟨a, cap, rfl, _⟩ := kids_parts hk
  have HC := Lib.hid h; have HEX := Lib.hid hex; have HN := Lib.hid hn
  clear h hat hk hex hn HE
  unfold cells7
  go_enter Tryz.func69, Tryz.ntmps69
  go_wp2_with (fail)
  refine (ckkids_any HEX.out _ 1 (by omega) 2 (HC.out.alloc _) (At.alloc HAT.out _)).mono ?_
  rintro e w2 ⟨rfl, ht2, hc2⟩
  have HT2 := Lib.hid ht2; have HC2 := Lib.hid hc2
  clear ht2 hc2
  go_wp2_with (fail)
  go_ret
  exact ⟨rfl, ((Turn.refl (· = C) w).alloc _).trans HT2.out, HC2.out⟩
set_option maxHeartbeats 1000000 in
set_option maxRecDepth 100000 in
theorem expr_call : ExAt 5 := by
  intro line col num name op kids hn hex base C G F lv k w cs h hat
  have HAT := Lib.hid hat
  obtain ⟨_, v, rfl, hk⟩ := at_kids_of hat
  obtain ⟨a, cap, rfl, _⟩ := kids_parts hk
  have HC := Lib.hid h; have HEX := Lib.hid hex; have HN := Lib.hid hn
  clear h hat hk hex hn
  cases hl : look k.fm name with
  | none =>
    have HE := Lib.hid (show ckExpr (.mk 5 line col num name op kids) k = (0, k.fail 21 line col) by simp [ckExpr, hl])
    have HL := Lib.hid hl
    rw [HE.out]
    dsimp only
    clear hl HE
    unfold cells7
    go_enter Tryz.func69, Tryz.ntmps69
    go_wp2_with (fail)
    refine (call_none HN.out _ (HC.out.alloc _) (At.alloc HAT.out _) HL.out).mono ?_
    rintro e w2 ⟨rfl, ht2, hc2⟩
    have HT2 := Lib.hid ht2; have HC2 := Lib.hid hc2
    clear ht2 hc2
    go_wp2_with (fail)
    go_ret
    exact ⟨rfl, ((Turn.refl (· = C) w).alloc _).trans HT2.out, HC2.out⟩
  | some i =>
    have HE := Lib.hid (show ckExpr (.mk 5 line col num name op kids) k = (1, ckKids kids 1 (k.unless (kids.length == (k.fnAt i).params.length) 23 line col)) by simp [ckExpr, hl])
    have HL := Lib.hid hl
    rw [HE.out]
    dsimp only
    clear hl HE
    unfold cells7
    go_enter Tryz.func69, Tryz.ntmps69
    go_wp2_with (fail)
    refine (call_some HN.out HEX.out _ (HC.out.alloc _) (At.alloc HAT.out _) i HL.out).mono ?_
    rintro e w2 ⟨rfl, ht2, hc2⟩
    have HT2 := Lib.hid ht2; have HC2 := Lib.hid hc2
    clear ht2 hc2
    go_wp2_with (fail)
    go_ret
    exact ⟨rfl, ((Turn.refl (· = C) w).alloc _).trans HT2.out, HC2.out⟩
set_option maxHeartbeats 1000000 in
set_option maxRecDepth 100000 in
theorem expr_else (kind : Int) (h1 : kind ≠ 1) (h2 : kind ≠ 2) (h3 : kind ≠ 3) (h4 : kind ≠ 4) (h5 : kind ≠ 5) (h6 : kind ≠ 6) (h7 : kind ≠ 7) (h8 : kind ≠ 8) (h9 : kind ≠ 9) : ExAt kind := by
  intro line col num name op kids hn hex base C G F lv k w cs h hat
  have HE := Lib.hid (show ckExpr (.mk kind line col num name op kids) k = (0, k.fail 40 line col) by simp [ckExpr, h1, h2, h3, h4, h5, h6, h7, h8, h9])
  rw [HE.out]
  dsimp only
  obtain ⟨_, v, rfl, hk⟩ := at_kids_of hat
  obtain ⟨a, cap, rfl, _⟩ := kids_parts hk
  have HC := Lib.hid h
  have b1 : (kind == 1) = false := by simpa using h1
  have b2 : (kind == 2) = false := by simpa using h2
  have b3 : (kind == 3) = false := by simpa using h3
  have b4 : (kind == 4) = false := by simpa using h4
  have b5 : (kind == 5) = false := by simpa using h5
  have b6 : (kind == 6) = false := by simpa using h6
  have b7 : (kind == 7) = false := by simpa using h7
  have b8 : (kind == 8) = false := by simpa using h8
  have b9 : (kind == 9) = false := by simpa using h9
  clear h hat hk hex hn HE h1 h2 h3 h4 h5 h6 h7 h8 h9
  unfold cells7
  go_enter Tryz.func69, Tryz.ntmps69
  go_wp2_with (fail)
  refine (ckfail_any (HC.out.alloc _) 40 line col).mono ?_
  rintro e w2 ⟨rfl, ht2, hc2⟩
  have HT2 := Lib.hid ht2; have HC2 := Lib.hid hc2
  clear ht2 hc2
  go_wp2_with (fail)
  go_ret
  exact ⟨rfl, ((Turn.refl (· = C) w).alloc _).trans HT2.out, HC2.out⟩
theorem expr_kind (kind : Int) : ExAt kind := by
  by_cases h1 : kind = 1
  · subst h1; exact expr_num
  by_cases h2 : kind = 2
  · subst h2; exact expr_truth
  by_cases h3 : kind = 3
  · subst h3; exact expr_var
  by_cases h4 : kind = 4
  · subst h4; exact expr_index
  by_cases h5 : kind = 5
  · subst h5; exact expr_call
  by_cases h6 : kind = 6
  · subst h6; exact expr_both
  by_cases h7 : kind = 7
  · subst h7; exact expr_and
  by_cases h8 : kind = 8
  · subst h8; exact expr_or
  by_cases h9 : kind = 9
  · subst h9; exact expr_not
  exact expr_else kind h1 h2 h3 h4 h5 h6 h7 h8 h9
theorem expr_size : ∀ (n : Nat) (e : Ex), e.size ≤ n → e.short = true → ExOk e
  | 0, .mk kind line col num name op kids, h, _ => by simp [Ex.size] at h
  | n + 1, .mk kind line col num name op kids, h, hs => by
    simp only [Ex.short, Bool.and_eq_true, decide_eq_true_eq] at hs
    refine expr_kind kind line col num name op kids hs.1 (fun i hi => expr_size n _ ?_ (Ex.shorts_at hs.2 i hi))
    have := Ex.sizes_get kids i hi
    simp only [Ex.size] at h
    omega
theorem ckexpr_any (e : Ex) (h : e.short = true) : ExOk e := expr_size _ e (Nat.le_refl _) h
end Go.Proofs.YtffgioifjdpajaaGreatDoor
