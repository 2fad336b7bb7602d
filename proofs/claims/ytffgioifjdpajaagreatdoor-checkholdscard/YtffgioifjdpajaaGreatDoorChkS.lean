/-
  The checker: Program.
-/
import Derived.Test.YtffgioifjdpajaaGreatDoorChkR
namespace Go.Proofs.YtffgioifjdpajaaGreatDoor
open Go.ChangeShapes Go.WideShapes Go.ChangeAt Go.RowKit
set_option linter.unusedVariables false

/-- What the checker asks of a program: names that are short, not too much in a body. -/
def fnFit (f : Fn) : Bool := decide (f.name.length ≤ 65536) && f.params.all (fun x => decide (x.length ≤ 65536)) && Sm.fits f.body && decide (f.params.length + Sm.grows f.body ≤ 1000000)
def prFit (p : Pr) : Bool := p.globals.all (fun g => decide (g.name.length ≤ 65536)) && p.funcs.all fnFit
theorem fit_gl {p : Pr} (h : prFit p = true) (i : Nat) (hi : i < p.globals.length) : (p.globals[i]).name.length ≤ 65536 := by
  unfold prFit at h
  rw [Bool.and_eq_true] at h
  simpa using List.all_eq_true.1 h.1 _ (List.getElem_mem hi)
theorem fit_fn {p : Pr} (h : prFit p = true) (i : Nat) (hi : i < p.funcs.length) : (p.funcs[i]).name.length ≤ 65536 ∧ (∀ j (hj : j < (p.funcs[i]).params.length), ((p.funcs[i]).params[j]).length ≤ 65536) ∧ Sm.fits (p.funcs[i]).body = true ∧ (p.funcs[i]).params.length + Sm.grows (p.funcs[i]).body ≤ 1000000 := by
  unfold prFit at h
  rw [Bool.and_eq_true] at h
  have q := List.all_eq_true.1 h.2 _ (List.getElem_mem hi)
  unfold fnFit at q
  simp only [Bool.and_eq_true, decide_eq_true_eq] at q
  obtain ⟨⟨⟨q1, q2⟩, q3⟩, q4⟩ := q
  exact ⟨q1, fun j hj => by simpa using List.all_eq_true.1 q2 _ (List.getElem_mem hj), q3, q4⟩
theorem ckBodies_snoc : ∀ (l : List Fn) (f : Fn) (k : Ck), ckBodies (l ++ [f]) k = ckFunc f (ckBodies l k)
  | [], f, k => by simp [ckBodies]
  | a :: l, f, k => by simp only [List.cons_append, ckBodies]; exact ckBodies_snoc l f _
def boAt (l : List Fn) (i : Nat) (k : Ck) : Ck := ckBodies (l.take i) k
theorem boAt_succ {l : List Fn} {i : Nat} (h : i < l.length) (k : Ck) : boAt l (i + 1) k = ckFunc l[i] (boAt l i k) := by
  unfold boAt; rw [List.take_succ_eq_append_getElem h, ckBodies_snoc]
theorem boAt_all (l : List Fn) (k : Ck) : boAt l l.length k = ckBodies l k := by unfold boAt; rw [List.take_length]
theorem ckSizes_same : ∀ (l : List Gl) (k : Ck), SameK k (ckSizes l k)
  | [], k => ⟨rfl, rfl, rfl, rfl, rfl⟩
  | g :: r, k => by
    have h1 := same_unless k (okGl g) 40 g.line g.col
    have h2 := ckSizes_same r (k.unless (okGl g) 40 g.line g.col)
    exact ⟨h2.1.trans h1.1, h2.2.1.trans h1.2.1, h2.2.2.1.trans h1.2.2.1, h2.2.2.2.1.trans h1.2.2.2.1, h2.2.2.2.2.trans h1.2.2.2.2⟩
theorem ckGlobals_same (k : Ck) (l : List Gl) : (ckGlobals l 0 k).gs = k.gs ∧ (ckGlobals l 0 k).fs = k.fs ∧ (ckGlobals l 0 k).fm = k.fm := by
  have : ∀ i, i ≤ l.length → (gbAt l i k).gs = k.gs ∧ (gbAt l i k).fs = k.fs ∧ (gbAt l i k).fm = k.fm := by
    intro i
    induction i with
    | zero => intro _; exact ⟨rfl, rfl, rfl⟩
    | succ i ih =>
      intro hi
      obtain ⟨h1, h2, h3⟩ := ih (by omega)
      rw [gbAt_succ (by omega)]
      obtain ⟨s1, s2, s3, s4, s5⟩ := stepG_same l[i] i (gbAt l i k)
      exact ⟨s1.trans h1, s2.trans h2, s3.trans h3⟩
  have h := this l.length (Nat.le_refl _)
  rwa [gbAt_all] at h
/-- The checker at its beginning, behind six new blocks. -/
theorem checks_init {p : Pr} {w : World} {gv fv : Value} (hgl : GlsAt w (· < w.heap.size) p.globals gv) (hfn : FnsAt w (· < w.heap.size) p.funcs fv) (o1 o2 o3 : Obj) :
    ∃ W, W = (((((w.alloc o1).alloc o2).alloc o3).alloc (.map #[] 0)).alloc (.map #[] 0)).alloc (.cells (cellsK gv fv (w.heap.size + 3) (w.heap.size + 4) (.map none) (ck0 p)) 71) ∧
      Checks w.heap.size (w.heap.size + 5) (w.heap.size + 3) (w.heap.size + 4) (.map none) (ck0 p) W ∧ w.grownBy W none ∧ W.heap[w.heap.size]? = some o1 ∧ W.heap[w.heap.size + 1]? = some o2 ∧ W.heap[w.heap.size + 2]? = some o3 := by
  refine ⟨_, rfl, ?_, ?_, ?_, ?_, ?_⟩
  · have hg : w.grownBy ((((((w.alloc o1).alloc o2).alloc o3).alloc (.map #[] 0)).alloc (.map #[] 0)).alloc (.cells (cellsK gv fv (w.heap.size + 3) (w.heap.size + 4) (.map none) (ck0 p)) 71)) none := grown_trans (grown_trans (grown_trans (grown_trans (grown_trans (grown_alloc _ _) (grown_alloc _ _)) (grown_alloc _ _)) (grown_alloc _ _)) (grown_alloc _ _)) (grown_alloc _ _)
    have hk : ∀ g, g < w.heap.size → g < w.heap.size → ∀ o, ((((((w.alloc o1).alloc o2).alloc o3).alloc (.map #[] 0)).alloc (.map #[] 0)).alloc (.cells (cellsK gv fv (w.heap.size + 3) (w.heap.size + 4) (.map none) (ck0 p)) 71)).cell? ⟨g, o, none⟩ = w.cell? ⟨g, o, none⟩ := fun g _ hl o => World.cell?_of_block (hg.block g hl (by simp))
    refine ⟨⟨gv, fv, alloc_at _ _ _ (by simp), hgl.keep hg.size (fun g h _ => h) hk, hfn.keep hg.size (fun g h _ => h) hk⟩, ?_, ?_, .inl ⟨rfl, rfl⟩, ⟨by omega, by omega, by omega, fun L hL => by cases hL⟩, by omega, fun x i hx => by simp [ck0, look] at hx, fun x i hx => by simp [ck0, look] at hx⟩
    · have h3 := nm_made 3 (((w.alloc o1).alloc o2).alloc o3)
      have e3 : (((w.alloc o1).alloc o2).alloc o3).heap.size = w.heap.size + 3 := by simp
      rw [e3] at h3
      exact (h3.keep (Below.heap_alloc _ _ _ (by simp))).keep (Below.heap_alloc _ _ _ (by simp))
    · have h3 := nm_made 3 ((((w.alloc o1).alloc o2).alloc o3).alloc (.map #[] 0))
      have e3 : ((((w.alloc o1).alloc o2).alloc o3).alloc (.map #[] 0)).heap.size = w.heap.size + 4 := by simp
      rw [e3] at h3
      exact h3.keep (Below.heap_alloc _ _ _ (by simp))
  · exact grown_trans (grown_trans (grown_trans (grown_trans (grown_trans (grown_alloc _ _) (grown_alloc _ _)) (grown_alloc _ _)) (grown_alloc _ _)) (grown_alloc _ _)) (grown_alloc _ _)
  · exact alloc_past _ _ _ _ (by simp; omega) (alloc_past _ _ _ _ (by simp; omega) (alloc_past _ _ _ _ (by simp; omega) (alloc_past _ _ _ _ (by simp; omega) (alloc_past _ _ _ _ (by simp) (alloc_at _ _ _ rfl)))))
  · exact alloc_past _ _ _ _ (by simp) (alloc_past _ _ _ _ (by simp) (alloc_past _ _ _ _ (by simp) (alloc_past _ _ _ _ (by simp) (alloc_at _ _ _ (by simp)))))
  · exact alloc_past _ _ _ _ (by simp) (alloc_past _ _ _ _ (by simp) (alloc_past _ _ _ _ (by simp) (alloc_at _ _ _ (by simp))))
/-- What check.Program answers. -/
def InfoAt (w : World) (k : Ck) (i1 i2 : Value) : Prop := if k.err = 0 then ∃ G F, i1 = .map (some G) ∧ i2 = .map (some F) ∧ NM 3 w G k.gm ∧ NM 3 w F k.fm else i1 = .map none ∧ i2 = .map none
def errOf (k : Ck) : Int × Int × Int := if k.err = 0 then (0, 0, 0) else (k.err, k.line, k.col)
def CPost (k : Ck) (w : World) (e : Ending) (w' : World) : Prop :=
  ∃ i1 i2, e = .returned (.tuple #[.agg #[i1, i2], .agg #[.int .i64 (errOf k).1, .int .i64 (errOf k).2.1, .int .i64 (errOf k).2.2]]) ∧ w.grownBy w' none ∧ InfoAt w' k i1 i2
set_option maxHeartbeats 8000000 in
set_option maxRecDepth 100000 in
theorem program_ck {p : Pr} (hfit : prFit p = true) {w : World} {cs : Array Value} (hat : p.At w (· < w.heap.size) cs) :
    Calls Tryz.prog 12 #[.agg cs] w (CPost (ckProg p) w) := by
  obtain ⟨gv, fv, rfl, hgl, hfn⟩ := hat
  obtain ⟨ga, gn, gc, rfl⟩ := hgl.slice
  obtain ⟨fa, fcap, rfl, hfmax, hrow⟩ := fn_cells hfn
  have HGL := Lib.hid hgl; have HFN := Lib.hid hfn; have HFIT := Lib.hid hfit; have HROW := Lib.hid hrow
  clear hgl hfn hfit hrow
  have hmm := @run_makeMap Tryz.prog
  go_enter Tryz.func12, Tryz.ntmps12
  go_upto_region 2 with (fail)
  obtain ⟨W, hW, hC, hgr, hb0, hb1, hb2⟩ := checks_init (p := p) HGL.out HFN.out (.cells #[.slice ga gn gc, .slice fa p.funcs.length fcap] 25) (.cells #[.map none, .map none] 30) (.cells #[.int .i64 0, .int .i64 0, .int .i64 0] 35)
  change Code.wp _ _ _ _ ((((((w.alloc (.cells #[.slice ga gn gc, .slice fa p.funcs.length fcap] 25)).alloc (.cells #[.map none, .map none] 30)).alloc (.cells #[.int .i64 0, .int .i64 0, .int .i64 0] 35)).alloc (.map #[] 0)).alloc (.map #[] 0)).alloc (.cells (cellsK (.slice ga gn gc) (.slice fa p.funcs.length fcap) (w.heap.size + 3) (w.heap.size + 4) (.map none) (ck0 p)) 71))
  rw [← hW]
  have hsz0 : w.heap.size + 5 < W.heap.size := by obtain ⟨_, _, q, _⟩ := hC.open; exact q
  have HC := Lib.hid hC; have HGR := Lib.hid hgr; have HB0 := Lib.hid hb0; have HB1 := Lib.hid hb1; have HB2 := Lib.hid hb2
  clear hW hC hgr hb0 hb1 hb2 hmm
  have HK := Lib.hid (show ckProg p = ckStart (ckBodies p.funcs (ckFuncs p.funcs 0 (ckGlobals p.globals 0 (ckSizes p.globals (ck0 p))))) from rfl)
  have HS1 := Lib.hid (ckSizes_same p.globals (ck0 p))
  have HS2 := Lib.hid (ckGlobals_same (ckSizes p.globals (ck0 p)) p.globals)
  go_wp2_with (fail)
  refine (sizes_ck HC.out).mono ?_
  rintro e w2 ⟨rfl, ht2, hc2⟩
  have HT2 := Lib.hid (ht2.mono (Y := fun q => w.heap.size + 3 ≤ q) (fun q hq => by omega))
  have HC2 := Lib.hid (show Checks w.heap.size (w.heap.size + 5) (w.heap.size + 3) (w.heap.size + 4) (.map none) (ckSizes p.globals (ck0 p)) w2 from hc2)
  clear ht2 hc2
  generalize ckSizes p.globals (ck0 p) = k2 at *
  have HE1 := Lib.hid (show k2.gs = p.globals from HS1.out.1); have HE2 := Lib.hid (show k2.fs = p.funcs from HS1.out.2.1); have HE3 := Lib.hid (show k2.gm = [] from HS1.out.2.2.1); have HE4 := Lib.hid (show k2.fm = [] from HS1.out.2.2.2.1)
  go_wp2_with (fail)
  refine (globals_ck HC2.out HE3.out (fun i hi => by
    have h1 := fit_gl HFIT.out i (by rw [← HE1.out]; exact hi)
    simpa only [HE1.out] using h1)).mono ?_
  rintro e w3 ⟨rfl, ht3, hc3⟩
  rw [HE1.out] at hc3
  have HT3 := Lib.hid (HT2.out.trans (ht3.mono (Y := fun q => w.heap.size + 3 ≤ q) (fun q hq => by omega)))
  have HC3 := Lib.hid hc3
  clear ht3 hc3
  generalize ckGlobals p.globals 0 k2 = k3 at *
  have HE5 := Lib.hid (show k3.fs = p.funcs from HS2.out.2.1.trans HE2.out); have HE6 := Lib.hid (show k3.fm = [] from HS2.out.2.2.trans HE4.out)
  go_wp2_with (fail)
  refine (functions_ck HC3.out HE6.out (fun i hi => by
    have h1 := (fit_fn HFIT.out i (by rw [← HE5.out]; exact hi)).1
    simpa only [HE5.out] using h1)).mono ?_
  rintro e w4 ⟨rfl, ht4, hc4⟩
  rw [HE5.out] at hc4
  have HT4 := Lib.hid (HT3.out.trans (ht4.mono (Y := fun q => w.heap.size + 3 ≤ q) (fun q hq => by omega)))
  have HC4 := Lib.hid hc4
  have hb4 := (HT4.out.block w.heap.size (by omega) (by omega)).trans HB0.out
  obtain ⟨⟨r0, r1⟩, _, _⟩ := two hb4
  have hsz4 : w.heap.size + 5 < w4.heap.size := by have := HT4.out.size; omega
  clear ht4 hc4 hb4 HT2 HT3 HC HC2 HC3 HS1 HS2 HE1 HE2 HE3 HE4 HE5 HE6
  generalize ckFuncs p.funcs 0 k3 = k4 at *
  go_upto_region 6 with (fail)
  go_loopw [22] (fun i wr => ∃ j : Nat, j ≤ p.funcs.length ∧ i = .int .i64 j ∧ Turn (fun q => w.heap.size + 3 ≤ q) W wr ∧ ∃ lv, Checks w.heap.size (w.heap.size + 5) (w.heap.size + 3) (w.heap.size + 4) lv (boAt p.funcs j k4) wr) (fun i _ => p.funcs.length - (intOf i).toNat)
  case atStart => exact ⟨0, Nat.zero_le _, rfl, HT4.out, _, HC4.out⟩
  case round =>
    obtain ⟨j, hj, rfl, htr, lv, hcr⟩ := hrel
    have HTR := Lib.hid htr; have HCR := Lib.hid hcr
    have hszr : w.heap.size + 5 < wr.heap.size := by have := htr.size; omega
    by_cases hjl : j < p.funcs.length
    · obtain ⟨g, o, pa, pc, ba, bn, bc, rfl, hg, hgl, hcap, hps, hbs, hcl⟩ := HROW.out j hjl
      have hg' : g < w.heap.size := hg
      have hkeep : ∀ g, g < w.heap.size → g < w.heap.size → ∀ o, wr.cell? ⟨g, o, none⟩ = w.cell? ⟨g, o, none⟩ := fun q hq _ o => (htr.cell (show q < W.heap.size by omega) (by omega) o).trans (World.cell?_of_block (HGR.out.block q hq (by simp)))
      have hold : ∀ q, q < 5 → wr.cell? ⟨g, o + j * 5 + q, none⟩ = (cellsF p.funcs[j].name (.slice pa p.funcs[j].params.length pc) (.slice ba bn bc) p.funcs[j].line p.funcs[j].col)[q]? := fun q hq => (hkeep g hg' hg' _).trans (hcl q hq)
      have hgr : g < wr.heap.size := by omega
      have hzr : w.heap.size ≤ wr.heap.size := by omega
      have hpr : StrsAt wr (· < w.heap.size) p.funcs[j].params (.slice pa p.funcs[j].params.length pc) := hps.keep hzr (fun g hg _ => hg) hkeep
      have hbr : BodyAt wr (· < w.heap.size) p.funcs[j].body (.slice ba bn bc) := hbs.keep (fun g hg _ => hg) hkeep
      have HSUC := Lib.hid (boAt_succ hjl k4)
      obtain ⟨_, f2, f3, f4⟩ := fit_fn HFIT.out j hjl
      have HF2 := Lib.hid f2; have HF3 := Lib.hid f3; have HF4 := Lib.hid f4; have HPR := Lib.hid hpr; have HBR := Lib.hid hbr
      clear hps hbs hkeep hcl f2 f3 f4 hpr hbr
      generalize hx : p.funcs[j] = x at *
      generalize boAt p.funcs j k4 = kj at *
      clear hx
      obtain ⟨name, params, body, line, col⟩ := x
      have r0 : wr.cell? ⟨g, o + j * 5, none⟩ = some (.string ⟨name.toArray⟩) := hold 0 (by decide)
      have r1 : wr.cell? ⟨g, o + j * 5 + 1, none⟩ = some (.slice pa params.length pc) := hold 1 (by decide)
      have r2 : wr.cell? ⟨g, o + j * 5 + 2, none⟩ = some (.slice ba bn bc) := hold 2 (by decide)
      have r3 : wr.cell? ⟨g, o + j * 5 + 3, none⟩ = some (.int .i64 line) := hold 3 (by decide)
      have r4 : wr.cell? ⟨g, o + j * 5 + 4, none⟩ = some (.int .i64 col) := hold 4 (by decide)
      clear htr hcr hold
      go_wp2_with (fail)
      refine (function_ck (f := ⟨name, params, body, line, col⟩) HF2.out HF3.out HF4.out (HCR.out.alloc (.cells #[.string ⟨name.toArray⟩, .slice pa params.length pc, .slice ba bn bc, .int .i64 line, .int .i64 col] 46)) (HPR.out.keep (by simp) (fun g hg _ => hg) (fun g _ hg o => World.cell?_of_block (Below.heap_alloc _ _ _ hg))) (HBR.out.keep (fun g hg _ => hg) (fun g _ hg o => World.cell?_of_block (Below.heap_alloc _ _ _ hg)))).mono ?_
      rintro e w5 ⟨rfl, ht5, lv5, hc5⟩
      have HT5 := Lib.hid ((HTR.out.alloc (.cells #[.string ⟨name.toArray⟩, .slice pa params.length pc, .slice ba bn bc, .int .i64 line, .int .i64 col] 46)).trans (ht5.mono (Y := fun q => w.heap.size + 3 ≤ q) (fun q hq => by omega)))
      have HC5 := Lib.hid hc5
      clear ht5 hc5
      go_wp2_with (fail)
      go_roundw
      case rel => exact ⟨j + 1, by omega, by go_num, HT5.out, lv5, by rw [HSUC.out]; exact HC5.out⟩
      case measure => simp [intOf]; omega
    · obtain rfl : j = p.funcs.length := by omega
      have HALL := Lib.hid (boAt_all p.funcs k4)
      rw [HALL.out] at HCR
      clear htr hcr
      generalize ckBodies p.funcs k4 = k5 at *
      go_wp2_with (fail)
      refine (start_ck HCR.out).mono ?_
      rintro e w6 ⟨rfl, ht6, hc6⟩
      have ht6' := HTR.out.trans (ht6.mono (Y := fun q => w.heap.size + 3 ≤ q) (fun q hq => by omega))
      have HT6 := Lib.hid ht6'
      have HC6 := Lib.hid hc6
      obtain ⟨gv, fv, hlt6, _, _, c0, c1, c2, c3, c4, c5, c6, c7, hf⟩ := hc6.open
      obtain ⟨⟨i0, i1⟩, if0, if1⟩ := two ((ht6'.block (w.heap.size + 1) (by omega) (by omega)).trans HB1.out)
      obtain ⟨⟨u0, u1, u2⟩, uf0, uf1, uf2⟩ := three ((ht6'.block (w.heap.size + 2) (by omega) (by omega)).trans HB2.out)
      have hl1 : w.heap.size + 1 < w6.heap.size := by omega
      have hl2 : w.heap.size + 2 < w6.heap.size := by omega
      have HG6 := Lib.hid (show w.grownBy w6 none from ⟨ht6'.os.trans HGR.out.os, ht6'.tape.trans HGR.out.tape, ht6'.output.trans HGR.out.output, Nat.le_trans HGR.out.size ht6'.size, fun k hk hne => (ht6'.block k (Nat.lt_of_lt_of_le hk HGR.out.size) (by omega)).trans (HGR.out.block k hk hne)⟩)
      clear ht6 hc6 ht6' hf
      generalize ckStart k5 = k6 at *
      by_cases he : k6.err = 0
      · have q0 : (k6.err != 0) = false := by simpa using he
        have HX := Lib.hid (show CPost k6 w = fun e w' => ∃ i1 i2, e = .returned (.tuple #[.agg #[i1, i2], .agg #[.int .i64 0, .int .i64 0, .int .i64 0]]) ∧ w.grownBy w' none ∧ ∃ G F, i1 = .map (some G) ∧ i2 = .map (some F) ∧ NM 3 w' G k6.gm ∧ NM 3 w' F k6.fm by
          funext e w'
          unfold CPost InfoAt errOf
          simp only [if_pos he])
        clear he
        go_wp2_with (fail)
        refine bodyPost_ret (v := .tuple #[.agg #[.map (some (w.heap.size + 3)), .map (some (w.heap.size + 4))], .agg #[.int .i64 0, .int .i64 0, .int .i64 0]]) (by simp [results, Tryz.results12, go_sem, i0, i1, u0, u1, u2]) rfl ?_
        rw [HK.out, HX.out]
        refine ⟨_, _, rfl, ?_, _, _, rfl, rfl, ?_, ?_⟩
        · repeat (first | with_reducible (refine grown_drew ?_) | with_reducible (refine grown_put ?_ _ _ (by omega)) | with_reducible (refine grown_trans ?_ (grown_alloc _ _)) | with_reducible (exact HG6.out))
        · refine HC6.out.gm.keep ?_
          rw [Below.heap_setCell _ _ _ _ (by show w.heap.size + 3 ≠ w.heap.size + 1 + 1; omega), Below.heap_setCell _ _ _ _ (by show w.heap.size + 3 ≠ w.heap.size + 1 + 1; omega), Below.heap_setCell _ _ _ _ (by show w.heap.size + 3 ≠ w.heap.size + 1 + 1; omega), Below.heap_setCell _ _ _ _ (by show w.heap.size + 3 ≠ w.heap.size + 1; omega), Below.heap_setCell _ _ _ _ (by show w.heap.size + 3 ≠ w.heap.size + 1; omega)]
        · refine HC6.out.fm.keep ?_
          rw [Below.heap_setCell _ _ _ _ (by show w.heap.size + 4 ≠ w.heap.size + 1 + 1; omega), Below.heap_setCell _ _ _ _ (by show w.heap.size + 4 ≠ w.heap.size + 1 + 1; omega), Below.heap_setCell _ _ _ _ (by show w.heap.size + 4 ≠ w.heap.size + 1 + 1; omega), Below.heap_setCell _ _ _ _ (by show w.heap.size + 4 ≠ w.heap.size + 1; omega), Below.heap_setCell _ _ _ _ (by show w.heap.size + 4 ≠ w.heap.size + 1; omega)]
      · have q0 : (k6.err != 0) = true := by simpa using he
        have HX := Lib.hid (show CPost k6 w = fun e w' => ∃ i1 i2, e = .returned (.tuple #[.agg #[i1, i2], .agg #[.int .i64 k6.err, .int .i64 k6.line, .int .i64 k6.col]]) ∧ w.grownBy w' none ∧ (i1 = .map none ∧ i2 = .map none) by
          funext e w'
          unfold CPost InfoAt errOf
          simp only [if_neg he])
        clear he
        go_wp2_with (fail)
        go_region
        all_goals go_wp2_with (fail)
        all_goals
          refine bodyPost_ret (v := .tuple #[.agg #[.map none, .map none], .agg #[.int .i64 k6.err, .int .i64 k6.line, .int .i64 k6.col]]) (by simp [results, Tryz.results12, go_sem, i0, i1, u0, u1, u2]) rfl ?_
          rw [HK.out, HX.out]
          refine ⟨_, _, rfl, ?_, rfl, rfl⟩
          repeat (first | with_reducible (refine grown_drew ?_) | with_reducible (refine grown_put ?_ _ _ (by omega)) | with_reducible (refine grown_trans ?_ (grown_alloc _ _)) | with_reducible (exact HG6.out))
end Go.Proofs.YtffgioifjdpajaaGreatDoor
