/-
  The parser over texts: what the lexer's tokens are for it.
-/
import Derived.Test.YtaomlahphlemdaaGreatDoorParAG
namespace Go.Proofs.YtaomlahphlemdaaGreatDoor
open Go.ChangeShapes Go.WideShapes Go.ChangeAt Go.RowKit
set_option linter.unusedVariables false

theorem span_all (p : Int → Bool) : ∀ (l : List UInt8) (c : UInt8), c ∈ l.take (spanL p l) → p (c.toNat : Int) = true
  | [], c, h => by simp at h
  | a :: r, c, h => by
    unfold spanL at h
    split at h
    · rw [List.take_succ_cons] at h
      rcases List.mem_cons.1 h with rfl | h
      · assumption
      · exact span_all p r c h
    · simp at h
theorem numL_in : ∀ (l : List UInt8) (a v : Int), (∀ c ∈ l, digitB (c.toNat : Int) = true) → 0 ≤ a → a ≤ 9223372036854775807 → numL a l = some v → 0 ≤ v ∧ v ≤ 9223372036854775807
  | [], a, v, _, h0, h1, h => by simp [numL] at h; omega
  | c :: r, a, v, hd, h0, h1, h => by
    unfold numL at h
    split at h
    · cases h
    · have hc := hd c (by simp)
      simp [digitB] at hc
      exact numL_in r _ v (fun x hx => hd x (by simp [hx])) (by omega) (by omega) h
theorem tok_ok (l : List UInt8) (h : (tokL l).err = 0) : (tokL l).kind ≠ 0 ∧ InI64 (tokL l).num := by
  cases l with
  | nil => simp [tokL] at h
  | cons c r =>
    by_cases hl : letterB (c.toNat : Int) = true
    · rw [tokL_letter rfl hl]
      exact ⟨by simp only; split <;> decide, in0⟩
    · have hl' : letterB (c.toNat : Int) = false := by simpa using hl
      by_cases hd : digitB (c.toNat : Int) = true
      · cases hq : numL 0 ((c :: r).take (spanL digitB (c :: r))) with
        | none => rw [tokL_none rfl hl' hd hq] at h; simp at h
        | some v =>
          rw [tokL_some rfl hl' hd hq]
          have := numL_in _ 0 v (span_all digitB (c :: r)) (by omega) (by omega) hq
          refine ⟨by simp, ?_⟩
          unfold InI64
          simp only
          omega
      · have hd' : digitB (c.toNat : Int) = false := by simpa using hd
        by_cases hm : 0 < markL (c :: r)
        · rw [tokL_mark rfl hl' hd' hm]
          exact ⟨by simp, in0⟩
        · rw [tokL_sign rfl hl' hd' hm] at h; simp at h
theorem goL_ok : ∀ (l : List UInt8) (d : Nat) (line col : Int) (acc ts : List Tok), goL l d line col acc = .ok ts → (∀ t ∈ acc, TokOk t) → ∃ mid e, ts = mid ++ [e] ∧ e.kind = 0 ∧ (∀ t ∈ mid ++ [e], TokOk t) ∧ mid.length ≤ acc.length + l.length
  | [], d, line, col, acc, ts, h, ha => by
    simp [goL] at h
    refine ⟨acc, ⟨0, [], 0, line, col⟩, h.symm, rfl, fun t ht => ?_, by omega⟩
    rcases List.mem_append.1 ht with ht | ht
    · exact ha t ht
    · simp at ht; subst ht; exact ⟨fun _ => rfl, in0⟩
  | c :: r, d + 1, line, col, acc, ts, h, ha => by
    rw [goL] at h
    obtain ⟨mid, e, h1, h2, h3, h4⟩ := goL_ok r d _ _ acc ts h ha
    exact ⟨mid, e, h1, h2, h3, by simp; omega⟩
  | c :: r, 0, line, col, acc, ts, h, ha => by
    rw [goL] at h
    split at h
    · split at h
      · rename_i he
        obtain ⟨hk, hn⟩ := tok_ok (c :: r) he
        obtain ⟨mid, e, h1, h2, h3, h4⟩ := goL_ok r _ _ _ _ ts h (fun t ht => by
          rcases List.mem_append.1 ht with ht | ht
          · exact ha t ht
          · simp at ht; subst ht; exact ⟨fun h0 => absurd h0 hk, hn⟩)
        exact ⟨mid, e, h1, h2, h3, by simp at h4 ⊢; omega⟩
      · cases h
    · obtain ⟨mid, e, h1, h2, h3, h4⟩ := goL_ok r _ _ _ acc ts h ha
      exact ⟨mid, e, h1, h2, h3, by simp; omega⟩
theorem goL_bad : ∀ (l : List UInt8) (d : Nat) (line col : Int) (acc : List Tok) (x : Int × Int × Int), goL l d line col acc = .error x → x.1 ≠ 0
  | [], d, line, col, acc, x, h => by simp [goL] at h
  | c :: r, d + 1, line, col, acc, x, h => by rw [goL] at h; exact goL_bad r d _ _ acc x h
  | c :: r, 0, line, col, acc, x, h => by
    rw [goL] at h
    split at h
    · split at h
      · exact goL_bad r _ _ _ _ x h
      · rename_i he
        cases h; exact he
    · exact goL_bad r _ _ _ acc x h
theorem lex_last {l : List UInt8} {ts : List Tok} (h : lexL l = .ok ts) : LastEnd ts ∧ ts.length ≤ l.length + 1 := by
  obtain ⟨mid, e, rfl, h2, h3, h4⟩ := goL_ok l 0 1 1 [] ts h (fun t ht => by simp at ht)
  exact ⟨⟨⟨mid, e, rfl, h2⟩, h3⟩, by simp at h4 ⊢; omega⟩
def st0 (ts : List Tok) : St := ⟨ts, 0, 0, 0, 0⟩
/-- The program of a text, and its fault. -/
def parseL (l : List UInt8) : Pr × (Int × Int × Int) :=
  match lexL l with
  | .error x => (⟨[], []⟩, x)
  | .ok ts => if (pProgram (st0 ts)).2.err = 0 then ((pProgram (st0 ts)).1, (0, 0, 0)) else (⟨[], []⟩, ((pProgram (st0 ts)).2.err, (pProgram (st0 ts)).2.line, (pProgram (st0 ts)).2.col))
def ParsePost (l : List UInt8) (w : World) (e : Ending) (w' : World) : Prop :=
  ∃ cs, e = .returned (.tuple #[.agg cs, .agg #[.int .i64 (parseL l).2.1, .int .i64 (parseL l).2.2.1, .int .i64 (parseL l).2.2.2]]) ∧ (parseL l).1.At w' (w.heap.size ≤ ·) cs ∧ w.grownBy w' none
theorem noPr (w : World) (S : Nat → Prop) : (⟨[], []⟩ : Pr).At w S zeroP := ⟨_, _, rfl, .inl ⟨rfl, _, _, rfl⟩, .inl ⟨rfl, _, _, rfl⟩⟩
theorem grown_put {w W : World} {b : Nat} (h : w.grownBy W none) (j : Nat) (v : Value) (hb : w.heap.size ≤ b) : w.grownBy (W.setCell ⟨b, j, none⟩ v) none :=
  ⟨h.os, h.tape, h.output, by have := h.size; simpa using this, fun k hk hne => (Below.heap_setCell _ _ _ _ (by show k ≠ b; omega)).trans (h.block k hk hne)⟩
theorem grown_went {R : Nat} {w W W' : World} (h : w.grownBy W none) (hw : Went R W W') (hR : w.heap.size ≤ R) : w.grownBy W' none :=
  ⟨hw.os.trans h.os, hw.tape.trans h.tape, hw.output.trans h.output, Nat.le_trans h.size hw.size, fun k hk hne => (hw.block k (Nat.lt_of_lt_of_le hk h.size) (by simp; omega)).trans (h.block k hk hne)⟩
theorem three {w : World} {b : Nat} {c0 c1 c2 : Value} {t : TypeId} (h : w.heap[b]? = some (.cells #[c0, c1, c2] t (0, 0))) :
    (w.cell? ⟨b, 0, none⟩ = some c0 ∧ w.cell? ⟨b, 1, none⟩ = some c1 ∧ w.cell? ⟨b, 2, none⟩ = some c2) ∧ w.frozen? ⟨b, 0, none⟩ = false ∧ w.frozen? ⟨b, 1, none⟩ = false ∧ w.frozen? ⟨b, 2, none⟩ = false := by
  refine ⟨⟨?_, ?_, ?_⟩, Lib.frozen_of_heap h 0, Lib.frozen_of_heap h 1, Lib.frozen_of_heap h 2⟩ <;> (rw [Lib.cell_of_heap h]; rfl)
theorem GlsAt.slice {w : World} {S : Nat → Prop} {l : List Gl} {v : Value} (h : GlsAt w S l v) : ∃ a k c, v = .slice a k c := by
  rcases h with ⟨_, a, cap, rfl⟩ | ⟨_, g, o, cap, rfl, _⟩ <;> exact ⟨_, _, _, rfl⟩
theorem FnsAt.slice {w : World} {S : Nat → Prop} {l : List Fn} {v : Value} (h : FnsAt w S l v) : ∃ a k c, v = .slice a k c := by
  rcases h with ⟨_, a, cap, rfl⟩ | ⟨_, g, o, cap, rfl, _⟩ <;> exact ⟨_, _, _, rfl⟩
theorem Pr.At.cells {w : World} {S : Nat → Prop} {p : Pr} {cs : Array Value} (h : p.At w S cs) : ∃ a b c d e f, cs = #[.slice a b c, .slice d e f] := by
  obtain ⟨gv, fv, rfl, h1, h2⟩ := h
  obtain ⟨a, b, c, rfl⟩ := h1.slice
  obtain ⟨d, e, f, rfl⟩ := h2.slice
  exact ⟨_, _, _, _, _, _, rfl⟩
def zeroFt : Array Value := #[.int .i64 0, .int .i64 0, .int .i64 0]
/-- The two places of Program's answers. -/
structure Out2 (w W : World) : Prop where
  grown : w.grownBy W none
  prog : W.heap[w.heap.size]? = some (.cells zeroP 25 (0, 0))
  fault : W.heap[w.heap.size + 1]? = some (.cells zeroFt 67 (0, 0))
theorem Out2.more {w W W' : World} (h : Out2 w W) (hg : W.grownBy W' none) : Out2 w W' :=
  ⟨grown_trans h.grown hg, (hg.block _ (Array.getElem?_eq_some_iff.1 h.prog).1 (by simp)).trans h.prog, (hg.block _ (Array.getElem?_eq_some_iff.1 h.fault).1 (by simp)).trans h.fault⟩
theorem Out2.went {R : Nat} {w W W' : World} (h : Out2 w W) (hw : Went R W W') (hR : w.heap.size + 2 ≤ R) : Out2 w W' :=
  ⟨grown_went h.grown hw (by omega), hw.keep h.prog (by omega), hw.keep h.fault (by omega)⟩

set_option maxHeartbeats 2000000 in
set_option maxRecDepth 100000 in
theorem Program_bad (s : ByteArray) (hs : s.size ≤ 65536) (a b c : Int) (hx : lexL s.data.toList = .error (a, b, c)) (w : World) : Calls Tryz.prog 19 #[.string s] w (ParsePost s.data.toList w) := by
  have hv : parseL s.data.toList = (⟨[], []⟩, (a, b, c)) := by unfold parseL; rw [hx]
  have ha : a ≠ 0 := goL_bad _ _ _ _ _ _ hx
  have HV := Lib.hid hv; have HX := Lib.hid hx
  have q0 : (a != 0) = true := by simpa using ha
  clear hv ha hx
  go_enter Tryz.func19, Tryz.ntmps19
  go_wp2_with (fail)
  refine (all_bad s hs a b c HX.out _).mono ?_
  rintro e w1 ⟨rfl, hb1⟩
  have hO : Out2 w w1 := Out2.more (W := (w.alloc (.cells zeroP 25)).alloc (.cells zeroFt 67)) ⟨grown_trans (grown_alloc _ _) (grown_alloc _ _), alloc_past _ _ _ _ (by simp) (alloc_at _ _ _ rfl), alloc_at _ _ _ (by simp)⟩ (grown_of hb1)
  have hlt := (Array.getElem?_eq_some_iff.1 hO.fault).1
  have hlt' : w.heap.size < w1.heap.size := by omega
  obtain ⟨⟨p0, p1⟩, pf0, pf1⟩ := two hO.prog
  obtain ⟨⟨u0, u1, u2⟩, uf0, uf1, uf2⟩ := three hO.fault
  have HO := Lib.hid hO
  clear hb1 hO
  go_wp2_with (fail)
  go_region
  all_goals go_wp2_with (fail)
  all_goals
    refine bodyPost_ret (v := .tuple #[.agg zeroP, .agg #[.int .i64 a, .int .i64 b, .int .i64 c]]) (by simp [results, Tryz.results19, go_sem, zeroP, p0, p1, u0, u1, u2, hlt, hlt']) rfl ?_
    unfold ParsePost
    rw [HV.out]
    refine ⟨_, rfl, noPr _ _, ?_⟩
    repeat (first | with_reducible (refine grown_drew ?_) | with_reducible (refine grown_put ?_ _ _ (by omega)) | with_reducible (refine grown_trans ?_ (grown_alloc _ _)) | with_reducible (exact HO.out.grown))

set_option maxHeartbeats 4000000 in
set_option maxRecDepth 100000 in
theorem Program_ok (s : ByteArray) (hs : s.size ≤ 65536) (ts : List Tok) (hx : lexL s.data.toList = .ok ts) (w : World) (hsg : Signs w) : Calls Tryz.prog 19 #[.string s] w (ParsePost s.data.toList w) := by
  obtain ⟨hlast, hlen⟩ := lex_last hx
  have hsz : s.data.toList.length = s.size := by simp
  have hne : 0 < ts.length := by cases hq : ts with | nil => exact absurd hq hlast.ne | cons => simp
  have hlow := hsg.1
  have HX := Lib.hid hx; have HLA := Lib.hid hlast; have HSG := Lib.hid hsg
  clear hx hlast hsg
  go_enter Tryz.func19, Tryz.ntmps19
  go_wp2_with (fail)
  refine (all_ok s hs ts HX.out hne _).mono ?_
  rintro e w1 ⟨g, cap, rfl, hb1, hg, hglt, hcap, hrow⟩
  have hg1 := grown_of hb1
  have hO : Out2 w w1 := Out2.more (W := (w.alloc (.cells zeroP 25)).alloc (.cells zeroFt 67)) ⟨grown_trans (grown_alloc _ _) (grown_alloc _ _), alloc_past _ _ _ _ (by simp) (alloc_at _ _ _ rfl), alloc_at _ _ _ (by simp)⟩ hg1
  have hlt := (Array.getElem?_eq_some_iff.1 hO.fault).1
  simp at hg
  have HO := Lib.hid hO; have HROW := Lib.hid hrow
  have hgw : w.grownBy w1 none := hO.grown
  have HSG1 := Lib.hid (HSG.out.keep hgw.size fun p => World.cell?_of_block (hgw.block _ hlow (by simp)))
  clear hb1 hO hrow hg1
  go_wp2_with (fail)
  have hr0 : Reads (w1.heap.size + 1) g (st0 ts) ((w1.alloc (.cells zeroFt 67)).alloc (.cells (cellsR g 0 ts.length cap (st0 ts)) 102)) := by
    have hga : w1.grownBy ((w1.alloc (.cells zeroFt 67)).alloc (.cells (cellsR g 0 ts.length cap (st0 ts)) 102)) none := grown_trans (grown_alloc _ _) (grown_alloc _ _)
    refine ⟨by omega, ⟨0, cap, alloc_at _ _ _ (by simp), hcap, ?_⟩, HLA.out, by show ts.length ≤ 65537; omega, ⟨by show (0 : Int) ≤ 0; omega, by show (0 : Int) ≤ 400000; omega⟩, by have := hgw.size; omega, HSG1.out.keep hga.size fun p => World.cell?_of_block (hga.block _ HSG1.out.1 (by simp))⟩
    refine TokRow.keep (w := w1) (fun i t ht => ?_) fun p => World.cell?_of_block (hga.block g hglt (by simp))
    simpa using HROW.out i t ht
  have HR0 := Lib.hid hr0
  clear hr0
  refine (program_any (blk := (stepsL ts.length).1) (st0 ts) _ (steps_all _ g ts.length).1 (steps_neat ts.length).1 (fun h => absurd rfl h) (by show (0 : Int) + 2 * ts.length + 1 ≤ 300000; omega) HR0.out).mono ?_
  rintro e w2 ⟨cs, rfl, hat, hw2, hr2⟩
  have hpp : progLoop (stepsL ts.length).1 (st0 ts).left.length ⟨[], []⟩ (st0 ts) = pProgram (st0 ts) := rfl
  rw [hpp] at hat hr2
  generalize hq : pProgram (st0 ts) = q at hat hr2
  have hO2 := ((HO.out.more (grown_alloc _ (.cells zeroFt 67))).more (grown_alloc _ (.cells (cellsR g 0 ts.length cap (st0 ts)) 102))).went hw2 (by omega)
  have hz2 := hw2.size
  simp at hz2
  obtain ⟨ka, kb, kc, fa, fb, fc, rfl⟩ := hat.cells
  obtain ⟨o, n, cap2, t, r, hl, hn, hcap2, hmax, hRb, c0, c1, c2, c3, c4, a0, a1, a2, a3, a4, hrow⟩ := hr2.open
  have hRlt := hr2.size
  obtain ⟨⟨p0, p1⟩, pf0, pf1⟩ := two hO2.prog
  obtain ⟨⟨u0, u1, u2⟩, uf0, uf1, uf2⟩ := three hO2.fault
  have hl1 : w.heap.size < w2.heap.size := by omega
  have hl2 : w.heap.size + 1 < w2.heap.size := by omega
  have HO2 := Lib.hid hO2; have HAT := Lib.hid hat; have HQ := Lib.hid hq
  clear hl hn hcap2 hmax hRb c0 c1 a0 a1 a2 a3 a4 hrow hO2 hat hq hr2 hw2 hpp
  by_cases he : q.2.err = 0
  · have q0 : (q.2.err != 0) = false := by simpa using he
    have HV := Lib.hid (show parseL s.data.toList = (q.1, (0, 0, 0)) by unfold parseL; rw [HX.out]; simp only; rw [HQ.out, if_pos he])
    clear he
    go_wp2_with (fail)
    refine bodyPost_ret (v := .tuple #[.agg #[.slice ka kb kc, .slice fa fb fc], .agg #[.int .i64 0, .int .i64 0, .int .i64 0]]) (by simp [results, Tryz.results19, go_sem, p0, p1, u0, u1, u2, hl1, hl2]) rfl ?_
    unfold ParsePost
    rw [HV.out]
    refine ⟨_, rfl, ?_, ?_⟩
    · refine HAT.out.keep (by simp) (fun q hq _ => by have h9 : ((w1.alloc (.cells zeroFt 67)).alloc (.cells (cellsR g 0 ts.length cap (st0 ts)) 102)).heap.size ≤ q := hq; simp at h9; omega) (fun q hq hlt o => ?_)
      have h9 : ((w1.alloc (.cells zeroFt 67)).alloc (.cells (cellsR g 0 ts.length cap (st0 ts)) 102)).heap.size ≤ q := hq
      simp at h9
      rw [World.cell?_of_block (Below.heap_alloc _ _ _ (by simpa using hlt)), World.cell?_of_block (Below.heap_setCell _ _ _ _ (by show q ≠ w.heap.size + 1; omega)), World.cell?_of_block (Below.heap_setCell _ _ _ _ (by show q ≠ w.heap.size + 1; omega)), World.cell?_of_block (Below.heap_setCell _ _ _ _ (by show q ≠ w.heap.size + 1; omega)), World.cell?_of_block (Below.heap_setCell _ _ _ _ (by show q ≠ w.heap.size; omega)), World.cell?_of_block (Below.heap_setCell _ _ _ _ (by show q ≠ w.heap.size; omega))]
    · repeat (first | with_reducible (refine grown_drew ?_) | with_reducible (refine grown_put ?_ _ _ (by omega)) | with_reducible (refine grown_trans ?_ (grown_alloc _ _)) | with_reducible (exact HO2.out.grown))
  · have q0 : (q.2.err != 0) = true := by simpa using he
    have HV := Lib.hid (show parseL s.data.toList = (⟨[], []⟩, (q.2.err, q.2.line, q.2.col)) by unfold parseL; rw [HX.out]; simp only; rw [HQ.out, if_neg he])
    clear he
    go_wp2_with (fail)
    go_region
    all_goals go_wp2_with (fail)
    all_goals
      refine bodyPost_ret (v := .tuple #[.agg zeroP, .agg #[.int .i64 q.2.err, .int .i64 q.2.line, .int .i64 q.2.col]]) (by simp [results, Tryz.results19, go_sem, zeroP, p0, p1, u0, u1, u2, hl1, hl2]) rfl ?_
      unfold ParsePost
      rw [HV.out]
      refine ⟨_, rfl, noPr _ _, ?_⟩
      repeat (first | with_reducible (refine grown_drew ?_) | with_reducible (refine grown_put ?_ _ _ (by omega)) | with_reducible (refine grown_trans ?_ (grown_alloc _ _)) | with_reducible (exact HO2.out.grown))

theorem Program_any (s : ByteArray) (hs : s.size ≤ 65536) (w : World) (hsg : Signs w) : Calls Tryz.prog 19 #[.string s] w (ParsePost s.data.toList w) := by
  cases hx : lexL s.data.toList with
  | error x => obtain ⟨a, b, c⟩ := x; exact Program_bad s hs a b c hx w
  | ok ts => exact Program_ok s hs ts hx w hsg
end Go.Proofs.YtaomlahphlemdaaGreatDoor
