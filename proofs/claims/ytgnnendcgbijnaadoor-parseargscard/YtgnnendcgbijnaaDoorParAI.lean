/-
  The parser over texts: what the lexer's tokens are for it.
  The document's example of chapter 4, as the laws' head asks it.
  From the row's condition on the package's tables to what the contracts ask.
  Small sums that the laws of layer 4 ask for.
-/
import Derived.Test.YtgnnendcgbijnaaDoorParAG
import Derived.Test.YtgnnendcgbijnaaDoorAstF
import Derived.Test.YtgnnendcgbijnaaDoorTie
import Derived.Test.YtgnnendcgbijnaaDoorCards
import Derived.Lib.LaidTab
import Derived.MakeChecks
import Derived.IntWalk
namespace Go.Proofs.YtgnnendcgbijnaaDoor
open Go.ChangeShapes Go.WideShapes Go.ChangeAt Go.RowKit
set_option linter.unusedVariables false

theorem span_all (p : Int → Bool) : ∀ (l : List UInt8) (c : UInt8), c ∈ l.take (spanL p l) → p (c.toNat : Int) = true
  | [], c, h => by simp at h
  | a :: r, c, h => by
    unfold spanL at h
    split at h
    · rw [List.take_succ_cons] at h
      rcases List.mem_cons.1 h with rfl | h
      · assumption
      · exact span_all p r c h
    · simp at h
theorem numL_in : ∀ (l : List UInt8) (a v : Int), (∀ c ∈ l, digitB (c.toNat : Int) = true) → 0 ≤ a → a ≤ 9223372036854775807 → numL a l = some v → 0 ≤ v ∧ v ≤ 9223372036854775807
  | [], a, v, _, h0, h1, h => by simp [numL] at h; omega
  | c :: r, a, v, hd, h0, h1, h => by
    unfold numL at h
    split at h
    · cases h
    · have hc := hd c (by simp)
      simp [digitB] at hc
      exact numL_in r _ v (fun x hx => hd x (by simp [hx])) (by omega) (by omega) h
theorem tok_ok (l : List UInt8) (h : (tokL l).err = 0) : (tokL l).kind ≠ 0 ∧ InI64 (tokL l).num := by
  cases l with
  | nil => simp [tokL] at h
  | cons c r =>
    by_cases hl : letterB (c.toNat : Int) = true
    · rw [tokL_letter rfl hl]
      exact ⟨by simp only; split <;> decide, in0⟩
    · have hl' : letterB (c.toNat : Int) = false := by simpa using hl
      by_cases hd : digitB (c.toNat : Int) = true
      · cases hq : numL 0 ((c :: r).take (spanL digitB (c :: r))) with
        | none => rw [tokL_none rfl hl' hd hq] at h; simp at h
        | some v =>
          rw [tokL_some rfl hl' hd hq]
          have := numL_in _ 0 v (span_all digitB (c :: r)) (by omega) (by omega) hq
          refine ⟨by simp, ?_⟩
          unfold InI64
          simp only
          omega
      · have hd' : digitB (c.toNat : Int) = false := by simpa using hd
        by_cases hm : 0 < markL (c :: r)
        · rw [tokL_mark rfl hl' hd' hm]
          exact ⟨by simp, in0⟩
        · rw [tokL_sign rfl hl' hd' hm] at h; simp at h
theorem goL_ok : ∀ (l : List UInt8) (d : Nat) (line col : Int) (acc ts : List Tok), goL l d line col acc = .ok ts → (∀ t ∈ acc, TokOk t) → ∃ mid e, ts = mid ++ [e] ∧ e.kind = 0 ∧ (∀ t ∈ mid ++ [e], TokOk t) ∧ mid.length ≤ acc.length + l.length
  | [], d, line, col, acc, ts, h, ha => by
    simp [goL] at h
    refine ⟨acc, ⟨0, [], 0, line, col⟩, h.symm, rfl, fun t ht => ?_, by omega⟩
    rcases List.mem_append.1 ht with ht | ht
    · exact ha t ht
    · simp at ht; subst ht; exact ⟨fun _ => rfl, in0⟩
  | c :: r, d + 1, line, col, acc, ts, h, ha => by
    rw [goL] at h
    obtain ⟨mid, e, h1, h2, h3, h4⟩ := goL_ok r d _ _ acc ts h ha
    exact ⟨mid, e, h1, h2, h3, by simp; omega⟩
  | c :: r, 0, line, col, acc, ts, h, ha => by
    rw [goL] at h
    split at h
    · split at h
      · rename_i he
        obtain ⟨hk, hn⟩ := tok_ok (c :: r) he
        obtain ⟨mid, e, h1, h2, h3, h4⟩ := goL_ok r _ _ _ _ ts h (fun t ht => by
          rcases List.mem_append.1 ht with ht | ht
          · exact ha t ht
          · simp at ht; subst ht; exact ⟨fun h0 => absurd h0 hk, hn⟩)
        exact ⟨mid, e, h1, h2, h3, by simp at h4 ⊢; omega⟩
      · cases h
    · obtain ⟨mid, e, h1, h2, h3, h4⟩ := goL_ok r _ _ _ acc ts h ha
      exact ⟨mid, e, h1, h2, h3, by simp; omega⟩
theorem goL_bad : ∀ (l : List UInt8) (d : Nat) (line col : Int) (acc : List Tok) (x : Int × Int × Int), goL l d line col acc = .error x → x.1 ≠ 0
  | [], d, line, col, acc, x, h => by simp [goL] at h
  | c :: r, d + 1, line, col, acc, x, h => by rw [goL] at h; exact goL_bad r d _ _ acc x h
  | c :: r, 0, line, col, acc, x, h => by
    rw [goL] at h
    split at h
    · split at h
      · exact goL_bad r _ _ _ _ x h
      · rename_i he
        cases h; exact he
    · exact goL_bad r _ _ _ acc x h
theorem lex_last {l : List UInt8} {ts : List Tok} (h : lexL l = .ok ts) : LastEnd ts ∧ ts.length ≤ l.length + 1 := by
  obtain ⟨mid, e, rfl, h2, h3, h4⟩ := goL_ok l 0 1 1 [] ts h (fun t ht => by simp at ht)
  exact ⟨⟨⟨mid, e, rfl, h2⟩, h3⟩, by simp at h4 ⊢; omega⟩
def st0 (ts : List Tok) : St := ⟨ts, 0, 0, 0, 0⟩
/-- The program of a text, and its fault. -/
def parseL (l : List UInt8) : Pr × (Int × Int × Int) :=
  match lexL l with
  | .error x => (⟨[], []⟩, x)
  | .ok ts => if (pProgram (st0 ts)).2.err = 0 then ((pProgram (st0 ts)).1, (0, 0, 0)) else (⟨[], []⟩, ((pProgram (st0 ts)).2.err, (pProgram (st0 ts)).2.line, (pProgram (st0 ts)).2.col))
def ParsePost (l : List UInt8) (w : World) (e : Ending) (w' : World) : Prop :=
  ∃ cs, e = .returned (.tuple #[.agg cs, .agg #[.int .i64 (parseL l).2.1, .int .i64 (parseL l).2.2.1, .int .i64 (parseL l).2.2.2]]) ∧ (parseL l).1.At w' (w.heap.size ≤ ·) cs ∧ w.grownBy w' none
theorem noPr (w : World) (S : Nat → Prop) : (⟨[], []⟩ : Pr).At w S zeroP := ⟨_, _, rfl, .inl ⟨rfl, _, _, rfl⟩, .inl ⟨rfl, _, _, rfl⟩⟩
theorem grown_put {w W : World} {b : Nat} (h : w.grownBy W none) (j : Nat) (v : Value) (hb : w.heap.size ≤ b) : w.grownBy (W.setCell ⟨b, j, none⟩ v) none :=
  ⟨h.os, h.tape, h.output, by have := h.size; simpa using this, fun k hk hne => (Below.heap_setCell _ _ _ _ (by show k ≠ b; omega)).trans (h.block k hk hne)⟩
theorem grown_went {R : Nat} {w W W' : World} (h : w.grownBy W none) (hw : Went R W W') (hR : w.heap.size ≤ R) : w.grownBy W' none :=
  ⟨hw.os.trans h.os, hw.tape.trans h.tape, hw.output.trans h.output, Nat.le_trans h.size hw.size, fun k hk hne => (hw.block k (Nat.lt_of_lt_of_le hk h.size) (by simp; omega)).trans (h.block k hk hne)⟩
theorem three {w : World} {b : Nat} {c0 c1 c2 : Value} {t : TypeId} (h : w.heap[b]? = some (.cells #[c0, c1, c2] t (0, 0))) :
    (w.cell? ⟨b, 0, none⟩ = some c0 ∧ w.cell? ⟨b, 1, none⟩ = some c1 ∧ w.cell? ⟨b, 2, none⟩ = some c2) ∧ w.frozen? ⟨b, 0, none⟩ = false ∧ w.frozen? ⟨b, 1, none⟩ = false ∧ w.frozen? ⟨b, 2, none⟩ = false := by
  refine ⟨⟨?_, ?_, ?_⟩, Lib.frozen_of_heap h 0, Lib.frozen_of_heap h 1, Lib.frozen_of_heap h 2⟩ <;> (rw [Lib.cell_of_heap h]; rfl)
theorem GlsAt.slice {w : World} {S : Nat → Prop} {l : List Gl} {v : Value} (h : GlsAt w S l v) : ∃ a k c, v = .slice a k c := by
  rcases h with ⟨_, a, cap, rfl⟩ | ⟨_, g, o, cap, rfl, _⟩ <;> exact ⟨_, _, _, rfl⟩
theorem FnsAt.slice {w : World} {S : Nat → Prop} {l : List Fn} {v : Value} (h : FnsAt w S l v) : ∃ a k c, v = .slice a k c := by
  rcases h with ⟨_, a, cap, rfl⟩ | ⟨_, g, o, cap, rfl, _⟩ <;> exact ⟨_, _, _, rfl⟩
theorem Pr.At.cells {w : World} {S : Nat → Prop} {p : Pr} {cs : Array Value} (h : p.At w S cs) : ∃ a b c d e f, cs = #[.slice a b c, .slice d e f] := by
  obtain ⟨gv, fv, rfl, h1, h2⟩ := h
  obtain ⟨a, b, c, rfl⟩ := h1.slice
  obtain ⟨d, e, f, rfl⟩ := h2.slice
  exact ⟨_, _, _, _, _, _, rfl⟩
def zeroFt : Array Value := #[.int .i64 0, .int .i64 0, .int .i64 0]
/-- The two places of Program's answers. -/
structure Out2 (w W : World) : Prop where
  grown : w.grownBy W none
  prog : W.heap[w.heap.size]? = some (.cells zeroP 30 (0, 0))
  fault : W.heap[w.heap.size + 1]? = some (.cells zeroFt 34 (0, 0))
theorem Out2.more {w W W' : World} (h : Out2 w W) (hg : W.grownBy W' none) : Out2 w W' :=
  ⟨grown_trans h.grown hg, (hg.block _ (Array.getElem?_eq_some_iff.1 h.prog).1 (by simp)).trans h.prog, (hg.block _ (Array.getElem?_eq_some_iff.1 h.fault).1 (by simp)).trans h.fault⟩
theorem Out2.went {R : Nat} {w W W' : World} (h : Out2 w W) (hw : Went R W W') (hR : w.heap.size + 2 ≤ R) : Out2 w W' :=
  ⟨grown_went h.grown hw (by omega), hw.keep h.prog (by omega), hw.keep h.fault (by omega)⟩

set_option maxHeartbeats 2000000 in
set_option maxRecDepth 100000 in
theorem Program_bad (s : ByteArray) (hs : s.size ≤ 65536) (a b c : Int) (hx : lexL s.data.toList = .error (a, b, c)) (w : World) : Calls Tryd.prog 8 #[.string s] w (ParsePost s.data.toList w) := by
  have hv : parseL s.data.toList = (⟨[], []⟩, (a, b, c)) := by unfold parseL; rw [hx]
  have ha : a ≠ 0 := goL_bad _ _ _ _ _ _ hx
  have HV := Lib.hid hv; have HX := Lib.hid hx
  have q0 : (a != 0) = true := by simpa using ha
  clear hv ha hx
  go_enter Tryd.func8, Tryd.ntmps8
  go_wp2_with (fail)
  refine (all_bad s hs a b c HX.out _).mono ?_
  rintro e w1 ⟨rfl, hb1⟩
  have hO : Out2 w w1 := Out2.more (W := (w.alloc (.cells zeroP 30)).alloc (.cells zeroFt 34)) ⟨grown_trans (grown_alloc _ _) (grown_alloc _ _), alloc_past _ _ _ _ (by simp) (alloc_at _ _ _ rfl), alloc_at _ _ _ (by simp)⟩ (grown_of hb1)
  have hlt := (Array.getElem?_eq_some_iff.1 hO.fault).1
  have hlt' : w.heap.size < w1.heap.size := by omega
  obtain ⟨⟨p0, p1⟩, pf0, pf1⟩ := two hO.prog
  obtain ⟨⟨u0, u1, u2⟩, uf0, uf1, uf2⟩ := three hO.fault
  have HO := Lib.hid hO
  clear hb1 hO
  go_wp2_with (fail)
  go_region
  all_goals go_wp2_with (fail)
  all_goals
    refine bodyPost_ret (v := .tuple #[.agg zeroP, .agg #[.int .i64 a, .int .i64 b, .int .i64 c]]) (by simp [results, Tryd.results8, go_sem, zeroP, p0, p1, u0, u1, u2, hlt, hlt']) rfl ?_
    unfold ParsePost
    rw [HV.out]
    refine ⟨_, rfl, noPr _ _, ?_⟩
    repeat (first | with_reducible (refine grown_drew ?_) | with_reducible (refine grown_put ?_ _ _ (by omega)) | with_reducible (refine grown_trans ?_ (grown_alloc _ _)) | with_reducible (exact HO.out.grown))

set_option maxHeartbeats 4000000 in
set_option maxRecDepth 100000 in
theorem Program_ok (s : ByteArray) (hs : s.size ≤ 65536) (ts : List Tok) (hx : lexL s.data.toList = .ok ts) (w : World) (hsg : Signs w) : Calls Tryd.prog 8 #[.string s] w (ParsePost s.data.toList w) := by
  obtain ⟨hlast, hlen⟩ := lex_last hx
  have hsz : s.data.toList.length = s.size := by simp
  have hne : 0 < ts.length := by cases hq : ts with | nil => exact absurd hq hlast.ne | cons => simp
  have hlow := hsg.1
  have HX := Lib.hid hx; have HLA := Lib.hid hlast; have HSG := Lib.hid hsg
  clear hx hlast hsg
  go_enter Tryd.func8, Tryd.ntmps8
  go_wp2_with (fail)
  refine (all_ok s hs ts HX.out hne _).mono ?_
  rintro e w1 ⟨g, cap, rfl, hb1, hg, hglt, hcap, hrow⟩
  have hg1 := grown_of hb1
  have hO : Out2 w w1 := Out2.more (W := (w.alloc (.cells zeroP 30)).alloc (.cells zeroFt 34)) ⟨grown_trans (grown_alloc _ _) (grown_alloc _ _), alloc_past _ _ _ _ (by simp) (alloc_at _ _ _ rfl), alloc_at _ _ _ (by simp)⟩ hg1
  have hlt := (Array.getElem?_eq_some_iff.1 hO.fault).1
  simp at hg
  have HO := Lib.hid hO; have HROW := Lib.hid hrow
  have hgw : w.grownBy w1 none := hO.grown
  have HSG1 := Lib.hid (HSG.out.keep hgw.size fun p => World.cell?_of_block (hgw.block _ hlow (by simp)))
  clear hb1 hO hrow hg1
  go_wp2_with (fail)
  have hr0 : Reads (w1.heap.size + 1) g (st0 ts) ((w1.alloc (.cells zeroFt 34)).alloc (.cells (cellsR g 0 ts.length cap (st0 ts)) 58)) := by
    have hga : w1.grownBy ((w1.alloc (.cells zeroFt 34)).alloc (.cells (cellsR g 0 ts.length cap (st0 ts)) 58)) none := grown_trans (grown_alloc _ _) (grown_alloc _ _)
    refine ⟨by omega, ⟨0, cap, alloc_at _ _ _ (by simp), hcap, ?_⟩, HLA.out, by show ts.length ≤ 65537; omega, ⟨by show (0 : Int) ≤ 0; omega, by show (0 : Int) ≤ 400000; omega⟩, by have := hgw.size; omega, HSG1.out.keep hga.size fun p => World.cell?_of_block (hga.block _ HSG1.out.1 (by simp))⟩
    refine TokRow.keep (w := w1) (fun i t ht => ?_) fun p => World.cell?_of_block (hga.block g hglt (by simp))
    simpa using HROW.out i t ht
  have HR0 := Lib.hid hr0
  clear hr0
  refine (program_any (blk := (stepsL ts.length).1) (st0 ts) _ (steps_all _ g ts.length).1 (steps_neat ts.length).1 (fun h => absurd rfl h) (by show (0 : Int) + 2 * ts.length + 1 ≤ 300000; omega) HR0.out).mono ?_
  rintro e w2 ⟨cs, rfl, hat, hw2, hr2⟩
  have hpp : progLoop (stepsL ts.length).1 (st0 ts).left.length ⟨[], []⟩ (st0 ts) = pProgram (st0 ts) := rfl
  rw [hpp] at hat hr2
  generalize hq : pProgram (st0 ts) = q at hat hr2
  have hO2 := ((HO.out.more (grown_alloc _ (.cells zeroFt 34))).more (grown_alloc _ (.cells (cellsR g 0 ts.length cap (st0 ts)) 58))).went hw2 (by omega)
  have hz2 := hw2.size
  simp at hz2
  obtain ⟨ka, kb, kc, fa, fb, fc, rfl⟩ := hat.cells
  obtain ⟨o, n, cap2, t, r, hl, hn, hcap2, hmax, hRb, c0, c1, c2, c3, c4, a0, a1, a2, a3, a4, hrow⟩ := hr2.open
  have hRlt := hr2.size
  obtain ⟨⟨p0, p1⟩, pf0, pf1⟩ := two hO2.prog
  obtain ⟨⟨u0, u1, u2⟩, uf0, uf1, uf2⟩ := three hO2.fault
  have hl1 : w.heap.size < w2.heap.size := by omega
  have hl2 : w.heap.size + 1 < w2.heap.size := by omega
  have HO2 := Lib.hid hO2; have HAT := Lib.hid hat; have HQ := Lib.hid hq
  clear hl hn hcap2 hmax hRb c0 c1 a0 a1 a2 a3 a4 hrow hO2 hat hq hr2 hw2 hpp
  by_cases he : q.2.err = 0
  · have q0 : (q.2.err != 0) = false := by simpa using he
    have HV := Lib.hid (show parseL s.data.toList = (q.1, (0, 0, 0)) by unfold parseL; rw [HX.out]; simp only; rw [HQ.out, if_pos he])
    clear he
    go_wp2_with (fail)
    refine bodyPost_ret (v := .tuple #[.agg #[.slice ka kb kc, .slice fa fb fc], .agg #[.int .i64 0, .int .i64 0, .int .i64 0]]) (by simp [results, Tryd.results8, go_sem, p0, p1, u0, u1, u2, hl1, hl2]) rfl ?_
    unfold ParsePost
    rw [HV.out]
    refine ⟨_, rfl, ?_, ?_⟩
    · refine HAT.out.keep (by simp) (fun q hq _ => by have h9 : ((w1.alloc (.cells zeroFt 34)).alloc (.cells (cellsR g 0 ts.length cap (st0 ts)) 58)).heap.size ≤ q := hq; simp at h9; omega) (fun q hq hlt o => ?_)
      have h9 : ((w1.alloc (.cells zeroFt 34)).alloc (.cells (cellsR g 0 ts.length cap (st0 ts)) 58)).heap.size ≤ q := hq
      simp at h9
      rw [World.cell?_of_block (Below.heap_alloc _ _ _ (by simpa using hlt)), World.cell?_of_block (Below.heap_setCell _ _ _ _ (by show q ≠ w.heap.size + 1; omega)), World.cell?_of_block (Below.heap_setCell _ _ _ _ (by show q ≠ w.heap.size + 1; omega)), World.cell?_of_block (Below.heap_setCell _ _ _ _ (by show q ≠ w.heap.size + 1; omega)), World.cell?_of_block (Below.heap_setCell _ _ _ _ (by show q ≠ w.heap.size; omega)), World.cell?_of_block (Below.heap_setCell _ _ _ _ (by show q ≠ w.heap.size; omega))]
    · repeat (first | with_reducible (refine grown_drew ?_) | with_reducible (refine grown_put ?_ _ _ (by omega)) | with_reducible (refine grown_trans ?_ (grown_alloc _ _)) | with_reducible (exact HO2.out.grown))
  · have q0 : (q.2.err != 0) = true := by simpa using he
    have HV := Lib.hid (show parseL s.data.toList = (⟨[], []⟩, (q.2.err, q.2.line, q.2.col)) by unfold parseL; rw [HX.out]; simp only; rw [HQ.out, if_neg he])
    clear he
    go_wp2_with (fail)
    go_region
    all_goals go_wp2_with (fail)
    all_goals
      refine bodyPost_ret (v := .tuple #[.agg zeroP, .agg #[.int .i64 q.2.err, .int .i64 q.2.line, .int .i64 q.2.col]]) (by simp [results, Tryd.results8, go_sem, zeroP, p0, p1, u0, u1, u2, hl1, hl2]) rfl ?_
      unfold ParsePost
      rw [HV.out]
      refine ⟨_, rfl, noPr _ _, ?_⟩
      repeat (first | with_reducible (refine grown_drew ?_) | with_reducible (refine grown_put ?_ _ _ (by omega)) | with_reducible (refine grown_trans ?_ (grown_alloc _ _)) | with_reducible (exact HO2.out.grown))

theorem Program_any (s : ByteArray) (hs : s.size ≤ 65536) (w : World) (hsg : Signs w) : Calls Tryd.prog 8 #[.string s] w (ParsePost s.data.toList w) := by
  cases hx : lexL s.data.toList with
  | error x => obtain ⟨a, b, c⟩ := x; exact Program_bad s hs a b c hx w
  | ok ts => exact Program_ok s hs ts hx w hsg
end Go.Proofs.YtgnnendcgbijnaaDoor

namespace Go.Proofs.YtgnnendcgbijnaaDoor
open Go.ChangeShapes Go.WideShapes Go.ChangeAt Go.RowKit
set_option linter.unusedVariables false

theorem fns_one {w : World} {S : Nat → Prop} {f : Fn} {v : Value} (h : FnsAt w S [f] v) : ∃ g o cap pv bv, v = .slice (some ⟨g, o, none⟩) 1 cap ∧ g < w.heap.size ∧ StrsAt w S f.params pv ∧ BodyAt w S f.body bv ∧
    w.cell? ⟨g, o, none⟩ = some (.string ⟨f.name.toArray⟩) ∧ w.cell? ⟨g, o + 1, none⟩ = some pv ∧ w.cell? ⟨g, o + 2, none⟩ = some bv := by
  rcases h with ⟨h, _⟩ | ⟨_, g, o, cap, rfl, _, hlt, _, _, hr⟩
  · cases h
  · obtain ⟨cs, ⟨pv, bv, rfl, h1, h2⟩, hc⟩ := hr 0 f rfl
    exact ⟨g, o, cap, pv, bv, rfl, hlt, h1, h2, hc 0 (by decide), hc 1 (by decide), hc 2 (by decide)⟩
theorem body_open {w : World} {S : Nat → Prop} {does line col : Int} {name : List UInt8} {es : List Ex} {thn els : List Sm} {v : Value} (h : BodyAt w S [.mk does line col name es thn els] v) : ∃ g o cap ev tv lv, v = .slice (some ⟨g, o, none⟩) 1 cap ∧ g < w.heap.size ∧ KidsAt w S es ev ∧ BodyAt w S thn tv ∧ BodyAt w S els lv ∧
    w.cell? ⟨g, o, none⟩ = some (.int .i64 does) ∧ w.cell? ⟨g, o + 3, none⟩ = some (.string ⟨name.toArray⟩) ∧ w.cell? ⟨g, o + 4, none⟩ = some ev ∧ w.cell? ⟨g, o + 5, none⟩ = some tv ∧ w.cell? ⟨g, o + 6, none⟩ = some lv := by
  rcases h with ⟨h, _⟩ | ⟨_, g, o, cap, rfl, _, _, _, hr⟩
  · cases h
  · have hlt := hr.lt
    unfold Sm.Row at hr
    obtain ⟨⟨cs, hat, hc⟩, _⟩ := hr
    unfold Sm.At at hat
    obtain ⟨ev, tv, lv, rfl, h1, h2, h3⟩ := hat
    exact ⟨g, o, cap, ev, tv, lv, rfl, hlt, h1, h2, h3, hc 0 (by decide), hc 3 (by decide), hc 4 (by decide), hc 5 (by decide), hc 6 (by decide)⟩
theorem kids_open {w : World} {S : Nat → Prop} {e : Ex} {v : Value} (h : KidsAt w S [e] v) : ∃ g o cap k l c n m op x y z, v = .slice (some ⟨g, o, none⟩) 1 cap ∧ g < w.heap.size ∧ e.At w S (cells7 k l c n m op (.slice x y z)) ∧
    w.cell? ⟨g, o, none⟩ = some (.int .i64 k) ∧ w.cell? ⟨g, o + 1, none⟩ = some (.int .i64 l) ∧ w.cell? ⟨g, o + 2, none⟩ = some (.int .i64 c) ∧ w.cell? ⟨g, o + 3, none⟩ = some (.int .i64 n) ∧ w.cell? ⟨g, o + 4, none⟩ = some (.string ⟨m.toArray⟩) ∧ w.cell? ⟨g, o + 5, none⟩ = some (.int .i64 op) ∧ w.cell? ⟨g, o + 6, none⟩ = some (.slice x y z) := by
  rcases h with ⟨h, _⟩ | ⟨_, g, o, cap, rfl, _, _, _, hr⟩
  · cases h
  · have hlt := hr.lt
    unfold Ex.Row at hr
    obtain ⟨⟨cs, hat, hc⟩, _⟩ := hr
    obtain ⟨k, l, c, n, m, op, x, y, z, rfl⟩ := hat.cells
    exact ⟨g, o, cap, k, l, c, n, m, op, x, y, z, rfl, hlt, hat, hc 0 (by decide), hc 1 (by decide), hc 2 (by decide), hc 3 (by decide), hc 4 (by decide), hc 5 (by decide), hc 6 (by decide)⟩

def headT : List UInt8 := [102, 117, 110, 99, 32, 109, 97, 105, 110, 40, 41, 32, 123, 32, 114, 101, 116, 117, 114, 110, 32, 49, 32, 43, 32, 50, 32, 42, 32, 51, 59, 32, 125]
def headE : Ex := .mk 6 1 24 0 [] 1 [.mk 1 1 22 1 [] 0 [], .mk 6 1 28 0 [] 3 [.mk 1 1 26 2 [] 0 [], .mk 1 1 30 3 [] 0 []]]
set_option maxRecDepth 100000 in
theorem head_parse : parseL headT = (⟨[], [⟨[109, 97, 105, 110], [], [.mk 6 1 15 [] [headE] [] []], 1, 6⟩]⟩, (0, 0, 0)) := by kernel_rfl
theorem head_text : headE.text = [40, 49, 32, 43, 32, 40, 50, 32, 42, 32, 51, 41, 41] := by
  have h1 : Lib.itoa 1 = [49] := by simp [Lib.itoa, Lib.decDigits]
  have h2 : Lib.itoa 2 = [50] := by simp [Lib.itoa, Lib.decDigits]
  have h3 : Lib.itoa 3 = [51] := by simp [Lib.itoa, Lib.decDigits]
  unfold headE
  simp [Ex.text_mk, textOf, Ex.texts, betweenL, signL, signsAll, h1, h2, h3]
theorem fns_keep {w w' : World} (hg : w.grownBy w' none) : ∀ q, q < w.heap.size → ∀ o, w'.cell? ⟨q, o, none⟩ = w.cell? ⟨q, o, none⟩ := fun q hq o => World.cell?_of_block (hg.block q hq (by simp))
theorem Ground.more {w w' : World} (h : Ground w) (hg : w.grownBy w' none) : Ground w' := h.later (below_grown hg (Nat.le_refl _))

set_option maxHeartbeats 2000000 in
set_option maxRecDepth 100000 in
theorem head_any (w : World) (hg : Ground w) : Calls Tryd.prog 7 #[] w fun e w' => e = .returned (.bool true) ∧ w.grownBy w' none := by
  have HG := Lib.hid hg
  clear hg
  go_enter Tryd.func7, Tryd.ntmps7
  go_wp2_with (fail)
  refine (Program_any ⟨#[102, 117, 110, 99, 32, 109, 97, 105, 110, 40, 41, 32, 123, 32, 114, 101, 116, 117, 114, 110, 32, 49, 32, 43, 32, 50, 32, 42, 32, 51, 59, 32, 125]⟩ (by decide) w HG.out.signs).mono ?_
  intro e w1 hp
  change ParsePost headT w e w1 at hp
  unfold ParsePost at hp
  rw [head_parse] at hp
  obtain ⟨cs, rfl, ⟨gv, fv, rfl, hgl, hfn⟩, hgr⟩ := hp
  obtain ⟨ga, gk, gc, rfl⟩ := hgl.slice
  obtain ⟨g1, o1, cap1, pv, bv, rfl, hl1, hpar, hbody, c0, c1, c2⟩ := fns_one hfn
  obtain ⟨g2, o2, cap2, ev, tv, lv, rfl, hl2, hkid, _, _, d0, d3, d4, d5, d6⟩ := body_open hbody
  obtain ⟨g3, o3, cap3, k3, l3, cc3, n3, m3, op3, x3, y3, z3, rfl, hl3, hat, e0, e1, e2, e3, e4, e5, e6⟩ := kids_open hkid
  have HGR := Lib.hid hgr; have HAT := Lib.hid hat
  clear hgl hfn hpar hbody hkid hat hgr
  go_wp2_with (fail)
  have hga : w1.grownBy ((w1.alloc (.cells #[.slice ga gk gc, .slice (some ⟨g1, o1, none⟩) 1 cap1] 30)).alloc (.cells #[.int .i64 0, .int .i64 0, .int .i64 0] 34)) none := grown_trans (grown_alloc _ _) (grown_alloc _ _)
  have HGA := Lib.hid (grown_trans HGR.out hga)
  refine (text_any headE _ _ (HG.out.more HGA.out) (Ex.At.keep (fun q _ hlt => by simp; omega) (fun q _ hlt o => fns_keep hga q hlt o) _ _ HAT.out) (by rw [head_text]; decide)).mono ?_
  rintro e w2 ⟨rfl, hb2⟩
  rw [head_text]
  have HB2 := Lib.hid (grown_of hb2)
  clear hb2 hga
  go_wp2_with (fail)
  go_ret
  exact ⟨rfl, grown_trans HGA.out HB2.out⟩
end Go.Proofs.YtgnnendcgbijnaaDoor

namespace Go.Proofs.YtgnnendcgbijnaaDoor
open Go.ChangeShapes Go.WideShapes Go.ChangeAt Go.RowKit
set_option linter.unusedVariables false

theorem laid_mem {P : Program} {w : World} : ∀ {l : List (String × DataW Unit)} {ps : List MemPlace}, DataW.LaidVars P w l ps → ∀ n d, (n, d) ∈ l →
    ∃ g t cs fuel p, P.globalNamed n = some g ∧ (P.globals[g]?).map (·.type) = some t ∧ w.var? P n = some cs ∧ DataW.trod (fun _ => ()) P w 0 (fun _ => true) false fuel t cs.toList = some (d, p)
  | [], ps, h, n, d, hm => by cases hm
  | (n', d') :: r, ps, h, n, d, hm => by
    obtain ⟨g, t, cs, fuel, p, q, h1, h2, h3, h4, h5, _⟩ := h
    rcases List.mem_cons.1 hm with e | hm
    · injection e with e1 e2; subst e1; subst e2; exact ⟨g, t, cs, fuel, p, h1, h2, h3, h4⟩
    · exact laid_mem h5 n d hm

theorem cells_of_strs {H : Type} {enc : TypeId × Value → H} {P : Program} {w : World} {base : Nat} {sp : Nat → Bool} {held : Bool} {fuel : Nat} {t e : TypeId} {n : Nat} {cs : List Value} {zs : List (List UInt8)} {p : List MemPlace}
    (ht : P.underlying t = some (.array n e)) (he : P.underlying e = some .string) (hce : P.cellsOf e = 1) (hct : P.cellsOf t = n)
    (h : DataW.trod enc P w base sp held fuel t cs = some (DataW.agg (zs.map fun z => DataW.lit (Lit.string z)), p)) : ∀ (i : Nat) (z : List UInt8), zs[i]? = some z → cs[i]? = some (Value.string ⟨z.toArray⟩) := by
  cases fuel with
  | zero => simp [DataW.trod] at h
  | succ fuel =>
    simp only [DataW.trod, ht, hce, hct, Nat.mul_one] at h
    split at h
    · obtain ⟨xs, hm, hx⟩ := Option.map_eq_some_iff.1 h
      have hxs : xs.map (·.1) = zs.map fun z => (DataW.lit (.string z) : DataW H) := by
        have := congrArg Prod.fst hx
        simpa using this
      have hxl : xs.length = n := by simpa using Lib.mapM_length hm
      have hzl : zs.length = n := by
        have := congrArg List.length hxs
        simp at this
        omega
      intro i z hz
      have hi : i < n := by have := (List.getElem?_eq_some_iff.1 hz).1; omega
      obtain ⟨b, hb, hf⟩ := Lib.mapM_at hm i i (by simp [hi])
      obtain ⟨s, hc, rfl, _⟩ := DataW.trod_string he hf
      have h1 : cs[i]? = some (.string s) := by
        have := congrArg (·[0]?) hc
        simpa [List.getElem?_take, List.getElem?_drop] using this
      have h2 : (xs.map (·.1))[i]? = some (DataW.lit (.string s.data.toList) : DataW H) := by simp [hb]
      rw [hxs] at h2
      simp only [List.getElem?_map, hz, Option.map_some, Option.some.injEq, DataW.lit.injEq, Lit.string.injEq] at h2
      rw [h1, h2]
    · cases h

theorem gSigns : Tryd.prog.globalNamed "palings/ast.signs" = some 1 := by kernel_rfl
theorem tSigns : (Tryd.prog.globals[1]?).map (·.type) = some 119 := by kernel_rfl
theorem gPow : Tryd.prog.globalNamed "internal/strconv.uint64pow10" = some 0 := by kernel_rfl
theorem tPow : (Tryd.prog.globals[0]?).map (·.type) = some 114 := by kernel_rfl
theorem cellsStr : Tryd.prog.cellsOf 9 = 1 := by kernel_rfl
theorem cellsSigns : Tryd.prog.cellsOf 119 = 14 := by kernel_rfl
theorem cellsU64 : Tryd.prog.cellsOf 105 = 1 := by kernel_rfl
theorem cellsPow : Tryd.prog.cellsOf 114 = 20 := by kernel_rfl

theorem ground_of {W : World} {l : List (String × DataW Unit)} (hp : (l.all fun x => x.2.handleName?.isNone) = true) (hs : ("palings/ast.signs", Rows.laid_palings_ast_signs) ∈ l) (hq : ("internal/strconv.uint64pow10", Rows.laid_internal_strconv_uint64pow10) ∈ l)
    (h : laidMetH Tryd.prog l W) : Ground W := by
  rw [MakeChecks.laidMetH_plain _ _ _ hp] at h
  obtain ⟨ps, h, _⟩ := h
  obtain ⟨g, t, cs, fuel, p, h1, h2, h3, h4⟩ := laid_mem h _ _ hs
  obtain rfl := Option.some.inj (gSigns.symm.trans h1)
  obtain rfl := Option.some.inj (tSigns.symm.trans h2)
  have hc := cells_of_strs (zs := signsAll) Tryd.underlying119 Tryd.underlying9 cellsStr cellsSigns h4
  have hcell : ∀ j x, signsAll[j]? = some x → W.cell? ⟨1, j, none⟩ = some (.string ⟨x.toArray⟩) := fun j x hj => by
    have := World.var?_cell h1 h3 j
    rw [this, ← hc j x hj]; simp
  refine ⟨⟨World.block_lt_of_cell? _ _ (hcell 0 _ rfl), hcell⟩, ?_⟩
  obtain ⟨g, t, cs, fuel, p, h1, h2, h3, h4⟩ := laid_mem h _ _ hq
  obtain rfl := Option.some.inj (gPow.symm.trans h1)
  obtain rfl := Option.some.inj (tPow.symm.trans h2)
  unfold Lib.TabIs
  rw [h3, ← Lib.cells_of_tab (k := .u64) (zs := Lib.pow10Tab) Tryd.underlying114 Tryd.underlying105 cellsU64 cellsPow h4]
end Go.Proofs.YtgnnendcgbijnaaDoor

namespace Go.Proofs.YtgnnendcgbijnaaDoor
open Go.ChangeShapes Go.WideShapes Go.ChangeAt Go.RowKit
set_option linter.unusedVariables false

theorem and7 (n : Int) : bits .and .i64 n 7 = ((n % 8).toNat : Int) := by
  show IntKind.i64.wrap ((BitVec.ofInt 64 n &&& BitVec.ofInt 64 7).toNat : Int) = _
  have h16 : (BitVec.ofInt 64 7).toNat = 7 := by decide
  have hb : ((BitVec.ofInt 64 n).toNat : Int) = n % 18446744073709551616 := by
    rw [BitVec.toNat_ofInt]
    have e : ((2 ^ 64 : Nat) : Int) = 18446744073709551616 := by decide
    rw [e]; omega
  rw [IntWalk.i64_left, BitVec.toNat_and, h16]
  have e : ∀ x : Nat, x &&& 7 = x % 8 := fun x => Nat.and_two_pow_sub_one_eq_mod x 3
  rw [e]
  unfold wrap64
  omega
theorem and15 (n : Int) : bits .and .i64 n 15 = ((n % 16).toNat : Int) := by
  show IntKind.i64.wrap ((BitVec.ofInt 64 n &&& BitVec.ofInt 64 15).toNat : Int) = _
  have h16 : (BitVec.ofInt 64 15).toNat = 15 := by decide
  have hb : ((BitVec.ofInt 64 n).toNat : Int) = n % 18446744073709551616 := by
    rw [BitVec.toNat_ofInt]
    have e : ((2 ^ 64 : Nat) : Int) = 18446744073709551616 := by decide
    rw [e]; omega
  rw [IntWalk.i64_left, BitVec.toNat_and, h16]
  have e : ∀ x : Nat, x &&& 15 = x % 16 := fun x => Nat.and_two_pow_sub_one_eq_mod x 4
  rw [e]
  unfold wrap64
  omega
theorem and31 (n : Int) : bits .and .i64 n 31 = ((n % 32).toNat : Int) := by
  show IntKind.i64.wrap ((BitVec.ofInt 64 n &&& BitVec.ofInt 64 31).toNat : Int) = _
  have h16 : (BitVec.ofInt 64 31).toNat = 31 := by decide
  have hb : ((BitVec.ofInt 64 n).toNat : Int) = n % 18446744073709551616 := by
    rw [BitVec.toNat_ofInt]
    have e : ((2 ^ 64 : Nat) : Int) = 18446744073709551616 := by decide
    rw [e]; omega
  rw [IntWalk.i64_left, BitVec.toNat_and, h16]
  have e : ∀ x : Nat, x &&& 31 = x % 32 := fun x => Nat.and_two_pow_sub_one_eq_mod x 5
  rw [e]
  unfold wrap64
  omega
theorem and63 (n : Int) : bits .and .i64 n 63 = ((n % 64).toNat : Int) := by
  show IntKind.i64.wrap ((BitVec.ofInt 64 n &&& BitVec.ofInt 64 63).toNat : Int) = _
  have h16 : (BitVec.ofInt 64 63).toNat = 63 := by decide
  have hb : ((BitVec.ofInt 64 n).toNat : Int) = n % 18446744073709551616 := by
    rw [BitVec.toNat_ofInt]
    have e : ((2 ^ 64 : Nat) : Int) = 18446744073709551616 := by decide
    rw [e]; omega
  rw [IntWalk.i64_left, BitVec.toNat_and, h16]
  have e : ∀ x : Nat, x &&& 63 = x % 64 := fun x => Nat.and_two_pow_sub_one_eq_mod x 6
  rw [e]
  unfold wrap64
  omega
theorem and255 (n : Int) : bits .and .i64 n 255 = ((n % 256).toNat : Int) := by
  show IntKind.i64.wrap ((BitVec.ofInt 64 n &&& BitVec.ofInt 64 255).toNat : Int) = _
  have h16 : (BitVec.ofInt 64 255).toNat = 255 := by decide
  have hb : ((BitVec.ofInt 64 n).toNat : Int) = n % 18446744073709551616 := by
    rw [BitVec.toNat_ofInt]
    have e : ((2 ^ 64 : Nat) : Int) = 18446744073709551616 := by decide
    rw [e]; omega
  rw [IntWalk.i64_left, BitVec.toNat_and, h16]
  have e : ∀ x : Nat, x &&& 255 = x % 256 := fun x => Nat.and_two_pow_sub_one_eq_mod x 8
  rw [e]
  unfold wrap64
  omega
theorem u64_mod (a : Int) : IntKind.u64.wrap a = a % 18446744073709551616 := by
  simp [IntKind.wrap, IntKind.bits, IntKind.signed]
theorem rem_at (a : Int) (m : Nat) (h0 : 0 < m) (h1 : m < 1000) : wrap64 ((IntKind.u64.wrap a).tmod m) = ((a % 18446744073709551616 % m).toNat : Int) := by
  rw [u64_mod, Int.tmod_eq_emod_of_nonneg (by omega)]
  have h2 := Int.emod_nonneg (a % 18446744073709551616) (show (m : Int) ≠ 0 by omega)
  have h3 := Int.emod_lt_of_pos (a % 18446744073709551616) (show (0 : Int) < m by omega)
  unfold wrap64
  omega
end Go.Proofs.YtgnnendcgbijnaaDoor
