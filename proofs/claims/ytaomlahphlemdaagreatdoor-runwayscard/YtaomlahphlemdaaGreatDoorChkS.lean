/-
  The checker: start, sizes.
  The checker: sizes.
  The checker: globals.
  The checker: functions.
  The checker: function.
  The checker: Program.
-/
import Derived.Test.YtaomlahphlemdaaGreatDoorChkL
namespace Go.Proofs.YtaomlahphlemdaaGreatDoor
open Go.ChangeShapes Go.WideShapes Go.ChangeAt Go.RowKit
set_option linter.unusedVariables false

set_option maxHeartbeats 2000000 in
set_option maxRecDepth 100000 in
theorem start_ck {base C G F : Nat} {lv : Value} {k : Ck} {w : World} (h : Checks base C G F lv k w) : Calls Tryz.prog 42 #[.pointer (some ⟨C, 0, none⟩)] w (CkPost base C G F lv (ckStart k) (.tuple #[]) w) := by
  obtain ⟨gv, fv, hlt, _, hfn, c0, c1, c2, c3, c4, _, _, _, _⟩ := h.open
  obtain ⟨_, l2, _⟩ := h.looks (x := mainL) (by decide)
  have HC := Lib.hid h; have HFI := Lib.hid (h.fi mainL)
  clear h
  cases hl : look k.fm mainL with
  | none =>
    have HE := Lib.hid (show ckStart k = k.fail 24 1 1 by unfold ckStart; rw [hl])
    rw [hl] at l2
    simp only [Option.getD_none, Option.isSome_none, mainL] at l2
    rw [HE.out]
    clear hl HE HFI hfn
    go_enter Tryz.func42, Tryz.ntmps42
    go_wp2_with (fail)
    refine (ckfail_any HC.out 24 1 1).mono ?_
    rintro e w2 ⟨rfl, ht2, hc2⟩
    have HT2 := Lib.hid ht2; have HC2 := Lib.hid hc2
    clear ht2 hc2
    go_wp2_with (fail)
    go_end0
    exact ⟨rfl, HT2.out, HC2.out⟩
  | some i =>
    obtain ⟨j, rfl, hj⟩ := HFI.out i hl
    obtain ⟨fg, fo, fcap, pa, pc, rfl, hfg, hfcap, hfmax, hpar⟩ := fn_at hfn hj
    have HFA := Lib.hid (show k.fnAt (j : Int) = k.fs.getD j noFn by unfold Ck.fnAt; rw [Int.toNat_natCast])
    have HE := Lib.hid (show ckStart k = k.unless ((k.fs.getD j noFn).params.length == 0) 24 1 1 by unfold ckStart; rw [hl]; simp only; rw [HFA.out])
    rw [hl] at l2
    simp only [Option.getD_some, Option.isSome_some, mainL] at l2
    rw [HE.out]
    clear hl HE HFI hfn HFA
    generalize (k.fs.getD j noFn).params.length = pn at *
    by_cases hp : pn = 0
    · subst hp
      go_enter Tryz.func42, Tryz.ntmps42
      go_wp2_with (fail)
      go_end0
      exact ⟨rfl, Turn.refl _ _, HC.out⟩
    · have q1 : decide ((0 : Int) < pn) = true := by simp; omega
      have q2 : 0 < pn := by omega
      have HV := Lib.hid (show k.unless (pn == 0) 24 1 1 = k.fail 24 1 1 by unfold Ck.unless; rw [if_neg (by simpa using hp)])
      clear hp
      go_enter Tryz.func42, Tryz.ntmps42
      go_wp2_with (fail)
      refine (ckfail_any HC.out 24 1 1).mono ?_
      rintro e w2 ⟨rfl, ht2, hc2⟩
      have HT2 := Lib.hid ht2; have HC2 := Lib.hid hc2
      clear ht2 hc2
      go_wp2_with (fail)
      go_end0
      exact ⟨rfl, HT2.out, by rw [HV.out]; exact HC2.out⟩
end Go.Proofs.YtaomlahphlemdaaGreatDoor

namespace Go.Proofs.YtaomlahphlemdaaGreatDoor
open Go.ChangeShapes Go.WideShapes Go.ChangeAt Go.RowKit
set_option linter.unusedVariables false

def okGl (g : Gl) : Bool := decide (0 ≤ g.size) && decide (g.size ≤ 4096) && decide (0 ≤ g.hold) && decide (g.hold ≤ 2)
theorem ckSizes_snoc : ∀ (l : List Gl) (g : Gl) (k : Ck), ckSizes (l ++ [g]) k = (ckSizes l k).unless (okGl g) 40 g.line g.col
  | [], g, k => by simp [ckSizes, okGl]
  | a :: l, g, k => by simp only [List.cons_append, ckSizes]; exact ckSizes_snoc l g _
def szAt (l : List Gl) (i : Nat) (k : Ck) : Ck := ckSizes (l.take i) k
theorem szAt_succ {l : List Gl} {i : Nat} (h : i < l.length) (k : Ck) : szAt l (i + 1) k = (szAt l i k).unless (okGl l[i]) 40 l[i].line l[i].col := by
  unfold szAt; rw [List.take_succ_eq_append_getElem h, ckSizes_snoc]
theorem szAt_all (l : List Gl) (k : Ck) : szAt l l.length k = ckSizes l k := by unfold szAt; rw [List.take_length]
theorem gl_cells {w : World} {S : Nat → Prop} {gs : List Gl} {gv : Value} (h : GlsAt w S gs gv) : ∃ a cap, gv = .slice a gs.length cap ∧ gs.length ≤ 4611686018427387904 ∧ (∀ j (hj : j < gs.length), ∃ g o, a = some ⟨g, o, none⟩ ∧ S g ∧ g < w.heap.size ∧ gs.length ≤ cap ∧ ∀ i, i < 5 → w.cell? ⟨g, o + j * 5 + i, none⟩ = (cellsG gs[j])[i]?) := by
  rcases h with ⟨rfl, a, cap, rfl⟩ | ⟨_, g, o, cap, rfl, hS, hlt, h1, h2, h3⟩
  · exact ⟨a, cap, rfl, by simp, fun j hj => by simp at hj⟩
  · refine ⟨_, cap, rfl, h2, fun j hj => ⟨g, o, rfl, hS, hlt, h1, fun i hi => ?_⟩⟩
    rw [show o + j * 5 + i = o + (5 * j + i) by omega]
    exact h3 j gs[j] (List.getElem?_eq_getElem hj) i hi
set_option maxHeartbeats 4000000 in
set_option maxRecDepth 100000 in
theorem sizes_ck {base C G F : Nat} {lv : Value} {k : Ck} {w : World} (h : Checks base C G F lv k w) : Calls Tryz.prog 38 #[.pointer (some ⟨C, 0, none⟩)] w (CkPost base C G F lv (ckSizes k.gs k) (.tuple #[]) w) := by
  obtain ⟨gv, fv, hlt, hgl, hfn, c0, c1, c2, c3, c4, _, _, _, _⟩ := h.open
  obtain ⟨a, cap, rfl, hmax, hrow⟩ := gl_cells hgl
  have HC := Lib.hid h; have HROW := Lib.hid hrow
  have hlow := h.low.1
  clear h hgl hfn hrow
  generalize k.gs = gs at *
  go_enter Tryz.func38, Tryz.ntmps38
  go_wp2_with (fail)
  go_loopw [10] (fun i wr => ∃ j : Nat, j ≤ gs.length ∧ i = .int .i64 j ∧ Turn (· = C) w wr ∧ Checks base C G F lv (szAt gs j k) wr) (fun i _ => gs.length - (intOf i).toNat)
  case atStart => exact ⟨0, Nat.zero_le _, rfl, Turn.refl _ _, HC.out⟩
  case round =>
    obtain ⟨j, hj, rfl, htr, hcr⟩ := hrel
    have HTR := Lib.hid htr; have HCR := Lib.hid hcr
    have hltr : C < wr.heap.size := by obtain ⟨_, _, q, _⟩ := hcr.open; exact q
    by_cases hjl : j < gs.length
    · obtain ⟨g, o, rfl, hg, hgl, hcap, hcl⟩ := HROW.out j hjl
      have hg' : g < base := hg
      have hold : ∀ q, q < 5 → wr.cell? ⟨g, o + j * 5 + q, none⟩ = (cellsG gs[j])[q]? := fun q hq => (htr.cell hgl (by omega) _).trans (hcl q hq)
      have hgr : g < wr.heap.size := Nat.lt_of_lt_of_le hgl htr.size
      have HSUC := Lib.hid (szAt_succ hjl k)
      generalize gs[j] = x at *
      obtain ⟨name, hold_, size, line, col⟩ := x
      have r0 : wr.cell? ⟨g, o + j * 5, none⟩ = some (.string ⟨name.toArray⟩) := hold 0 (by decide)
      have r1 : wr.cell? ⟨g, o + j * 5 + 1, none⟩ = some (.int .i64 hold_) := hold 1 (by decide)
      have r2 : wr.cell? ⟨g, o + j * 5 + 2, none⟩ = some (.int .i64 size) := hold 2 (by decide)
      have r3 : wr.cell? ⟨g, o + j * 5 + 3, none⟩ = some (.int .i64 line) := hold 3 (by decide)
      have r4 : wr.cell? ⟨g, o + j * 5 + 4, none⟩ = some (.int .i64 col) := hold 4 (by decide)
      clear htr hcr hold hcl
      by_cases g1 : size < 0
      · have b1 : decide (size < 0) = true := by simpa using g1
        have HOK := Lib.hid (show (szAt gs j k).unless (okGl ⟨name, hold_, size, line, col⟩) 40 line col = (szAt gs j k).fail 40 line col by
          have : okGl ⟨name, hold_, size, line, col⟩ = false := by unfold okGl; simp; omega
          rw [this]; rfl)
        clear g1
        go_wp2_with (fail)
        refine (ckfail_any (HCR.out.alloc _) 40 line col).mono ?_
        rintro e w2 ⟨rfl, ht2, hc2⟩
        have HT2 := Lib.hid ht2; have HC2 := Lib.hid hc2
        clear ht2 hc2
        go_wp2_with (fail)
        go_roundw
        case rel => exact ⟨j + 1, by omega, by go_num, (HTR.out.alloc _).trans HT2.out, by rw [HSUC.out]; first | (rw [HOK.out]; exact HC2.out) | (dsimp only; rw [HOK.out]; exact HC2.out)⟩
        case measure => simp [intOf]; omega
      have b1 : decide (size < 0) = false := by simpa using g1
      by_cases g2 : 4096 < size
      · have b2 : decide (4096 < size) = true := by simpa using g2
        have HOK := Lib.hid (show (szAt gs j k).unless (okGl ⟨name, hold_, size, line, col⟩) 40 line col = (szAt gs j k).fail 40 line col by
          have : okGl ⟨name, hold_, size, line, col⟩ = false := by unfold okGl; simp; omega
          rw [this]; rfl)
        clear g1 g2
        go_wp2_with (fail)
        refine (ckfail_any (HCR.out.alloc _) 40 line col).mono ?_
        rintro e w2 ⟨rfl, ht2, hc2⟩
        have HT2 := Lib.hid ht2; have HC2 := Lib.hid hc2
        clear ht2 hc2
        go_wp2_with (fail)
        go_roundw
        case rel => exact ⟨j + 1, by omega, by go_num, (HTR.out.alloc _).trans HT2.out, by rw [HSUC.out]; first | (rw [HOK.out]; exact HC2.out) | (dsimp only; rw [HOK.out]; exact HC2.out)⟩
        case measure => simp [intOf]; omega
      have b2 : decide (4096 < size) = false := by simpa using g2
      by_cases g3 : hold_ < 0
      · have b3 : decide (hold_ < 0) = true := by simpa using g3
        have HOK := Lib.hid (show (szAt gs j k).unless (okGl ⟨name, hold_, size, line, col⟩) 40 line col = (szAt gs j k).fail 40 line col by
          have : okGl ⟨name, hold_, size, line, col⟩ = false := by unfold okGl; simp; omega
          rw [this]; rfl)
        clear g1 g2 g3
        go_wp2_with (fail)
        refine (ckfail_any (HCR.out.alloc _) 40 line col).mono ?_
        rintro e w2 ⟨rfl, ht2, hc2⟩
        have HT2 := Lib.hid ht2; have HC2 := Lib.hid hc2
        clear ht2 hc2
        go_wp2_with (fail)
        go_roundw
        case rel => exact ⟨j + 1, by omega, by go_num, (HTR.out.alloc _).trans HT2.out, by rw [HSUC.out]; first | (rw [HOK.out]; exact HC2.out) | (dsimp only; rw [HOK.out]; exact HC2.out)⟩
        case measure => simp [intOf]; omega
      have b3 : decide (hold_ < 0) = false := by simpa using g3
      by_cases g4 : 2 < hold_
      · have b4 : decide (2 < hold_) = true := by simpa using g4
        have HOK := Lib.hid (show (szAt gs j k).unless (okGl ⟨name, hold_, size, line, col⟩) 40 line col = (szAt gs j k).fail 40 line col by
          have : okGl ⟨name, hold_, size, line, col⟩ = false := by unfold okGl; simp; omega
          rw [this]; rfl)
        clear g1 g2 g3 g4
        go_wp2_with (fail)
        refine (ckfail_any (HCR.out.alloc _) 40 line col).mono ?_
        rintro e w2 ⟨rfl, ht2, hc2⟩
        have HT2 := Lib.hid ht2; have HC2 := Lib.hid hc2
        clear ht2 hc2
        go_wp2_with (fail)
        go_roundw
        case rel => exact ⟨j + 1, by omega, by go_num, (HTR.out.alloc _).trans HT2.out, by rw [HSUC.out]; first | (rw [HOK.out]; exact HC2.out) | (dsimp only; rw [HOK.out]; exact HC2.out)⟩
        case measure => simp [intOf]; omega
      have b4 : decide (2 < hold_) = false := by simpa using g4
      have HOK := Lib.hid (show (szAt gs j k).unless (okGl ⟨name, hold_, size, line, col⟩) 40 line col = szAt gs j k by
        have : okGl ⟨name, hold_, size, line, col⟩ = true := by unfold okGl; simp; omega
        rw [this]; rfl)
      clear g1 g2 g3 g4
      go_wp2_with (fail)
      go_roundw
      case rel => exact ⟨j + 1, by omega, by go_num, HTR.out.alloc _, by rw [HSUC.out]; first | exact HOK.out ▸ (HCR.out.alloc _) | (rw [HOK.out]; exact HCR.out.alloc _) | (dsimp only; rw [HOK.out]; exact HCR.out.alloc _)⟩
      case measure => simp [intOf]; omega
    · obtain rfl : j = gs.length := by omega
      have HALL := Lib.hid (szAt_all gs k)
      rw [HALL.out] at HCR
      clear htr hcr
      go_wp2_with (fail)
      go_end0
      exact ⟨rfl, HTR.out, HCR.out⟩
end Go.Proofs.YtaomlahphlemdaaGreatDoor

namespace Go.Proofs.YtaomlahphlemdaaGreatDoor
open Go.ChangeShapes Go.WideShapes Go.ChangeAt Go.RowKit
set_option linter.unusedVariables false

theorem own5 {w : World} {b : Nat} {c0 c1 c2 c3 c4 : Value} {t : TypeId} (h : w.heap[b]? = some (.cells #[c0, c1, c2, c3, c4] t (0, 0))) :
    w.cell? ⟨b, 0, none⟩ = some c0 ∧ w.cell? ⟨b, 1, none⟩ = some c1 ∧ w.cell? ⟨b, 2, none⟩ = some c2 ∧ w.cell? ⟨b, 3, none⟩ = some c3 ∧ w.cell? ⟨b, 4, none⟩ = some c4 := by
  refine ⟨?_, ?_, ?_, ?_, ?_⟩ <;> (rw [Lib.cell_of_heap h]; rfl)
def stepG (g : Gl) (i : Int) (c : Ck) : Ck := { ((c.unless (!c.known g.name) 20 g.line g.col).unless (decide (i < 64)) 3 g.line g.col) with gm := (g.name, some i) :: ((c.unless (!c.known g.name) 20 g.line g.col).unless (decide (i < 64)) 3 g.line g.col).gm }
theorem ckGlobals_snoc : ∀ (l : List Gl) (g : Gl) (i : Int) (k : Ck), ckGlobals (l ++ [g]) i k = stepG g (i + l.length) (ckGlobals l i k)
  | [], g, i, k => by simp [ckGlobals, stepG]
  | a :: l, g, i, k => by
    simp only [List.cons_append, ckGlobals]
    rw [ckGlobals_snoc l g (i + 1)]
    congr 1
    simp; omega
def gbAt (l : List Gl) (i : Nat) (k : Ck) : Ck := ckGlobals (l.take i) 0 k
theorem gbAt_succ {l : List Gl} {i : Nat} (h : i < l.length) (k : Ck) : gbAt l (i + 1) k = stepG l[i] i (gbAt l i k) := by
  unfold gbAt; rw [List.take_succ_eq_append_getElem h, ckGlobals_snoc]
  congr 1
  rw [List.length_take]; omega
theorem gbAt_all (l : List Gl) (k : Ck) : gbAt l l.length k = ckGlobals l 0 k := by unfold gbAt; rw [List.take_length]
theorem stepG_same (g : Gl) (i : Int) (c : Ck) : (stepG g i c).gs = c.gs ∧ (stepG g i c).fs = c.fs ∧ (stepG g i c).fm = c.fm ∧ (stepG g i c).lm = c.lm ∧ (stepG g i c).gm = (g.name, some i) :: c.gm := by
  have h := (same_unless c (!c.known g.name) 20 g.line g.col).trans (same_unless _ (decide (i < 64)) 3 g.line g.col)
  exact ⟨h.1, h.2.1, h.2.2.2.1, h.2.2.2.2, by show _ :: _ = _; rw [h.2.2.1]⟩
theorem gbAt_same (l : List Gl) (k : Ck) : ∀ i, i ≤ l.length → (gbAt l i k).gs = k.gs ∧ (gbAt l i k).gm.length = k.gm.length + i
  | 0, _ => ⟨rfl, rfl⟩
  | i + 1, h => by
    obtain ⟨h1, h2⟩ := gbAt_same l k i (by omega)
    obtain ⟨s1, _, _, _, s5⟩ := stepG_same l[i] i (gbAt l i k)
    rw [gbAt_succ (by omega)]
    exact ⟨s1.trans h1, by rw [s5]; simp [h2]; omega⟩
/-- The globals' map has turned. -/
theorem Checks.putG {base C G F : Nat} {lv : Value} {k : Ck} {w w' : World} {x : List UInt8} {j : Nat} (h : Checks base C G F lv k w) (hg : w.grownBy w' (some G)) (hj : j < k.gs.length) (hm : NM 3 w' G ((x, some (j : Int)) :: k.gm)) : Checks base C G F lv { k with gm := (x, some (j : Int)) :: k.gm } w' := by
  obtain ⟨⟨gv, fv, hb, h1, h2⟩, h3, h4, h5, h6, h7, h8, h9⟩ := h
  have hCG : C ≠ G := (map_ne h3 hb).symm
  have hcl := (Array.getElem?_eq_some_iff.1 hb).1
  have hk : ∀ g, g < base → g < w.heap.size → ∀ o, w'.cell? ⟨g, o, none⟩ = w.cell? ⟨g, o, none⟩ := fun g hg' hl o => World.cell?_of_block (hg.block g hl (by have := h6.2.1; simp; omega))
  refine ⟨⟨gv, fv, (hg.block C hcl (by simpa using hCG)).trans hb, h1.keep hg.size (fun g hg _ => hg) hk, h2.keep hg.size (fun g hg _ => hg) hk⟩, hm, h4.keep (hg.block F h4.lt (by simpa using h7.symm)), ?_, h6, h7, fun y i hy => ?_, h9⟩
  · rcases h5 with h5 | ⟨L, rfl, h5⟩
    · exact .inl h5
    · exact .inr ⟨L, rfl, h5.keep (hg.block L h5.lt (by simpa using (h6.2.2.2 L rfl).2.1))⟩
  · simp only [look] at hy
    split at hy
    · cases hy; exact ⟨j, rfl, hj⟩
    · exact h8 y i hy
theorem wf_nat {j : Nat} (h : j ≤ 4611686018427387904) : (Lit.int .i64 (j : Int)).wf = true := WalkArith.wf_i64 (by omega)
set_option maxHeartbeats 8000000 in
set_option maxRecDepth 100000 in
theorem globals_ck {base C G F : Nat} {lv : Value} {k : Ck} {w : World} (h : Checks base C G F lv k w) (hgm : k.gm = []) (hnm : ∀ i (hi : i < k.gs.length), (k.gs[i]).name.length ≤ 65536) :
    Calls Tryz.prog 39 #[.pointer (some ⟨C, 0, none⟩)] w (fun e w' => e = .returned (.tuple #[]) ∧ Turn (fun q => q = C ∨ q = G) w w' ∧ Checks base C G F lv (ckGlobals k.gs 0 k) w') := by
  obtain ⟨gv, fv, hlt, hgl, hfn, c0, c1, c2, c3, c4, _, _, _, _⟩ := h.open
  obtain ⟨a, cap, rfl, hmax, hrow⟩ := gl_cells hgl
  have HC := Lib.hid h; have HROW := Lib.hid hrow; have HNM := Lib.hid hnm; have HGM := Lib.hid hgm
  have hlow := h.low.1
  have hlowG := h.low.2.1
  have HSAME := Lib.hid (gbAt_same k.gs k)
  clear h hgl hfn hrow hnm hgm
  generalize hgs : k.gs = gs at *
  have HGS := Lib.hid hgs
  clear hgs
  go_enter Tryz.func39, Tryz.ntmps39
  go_wp2_with (fail)
  go_loopw [10] (fun i wr => ∃ j : Nat, j ≤ gs.length ∧ i = .int .i64 j ∧ Turn (fun q => q = C ∨ q = G) w wr ∧ Checks base C G F lv (gbAt gs j k) wr) (fun i _ => gs.length - (intOf i).toNat)
  case atStart => exact ⟨0, Nat.zero_le _, rfl, Turn.refl _ _, HC.out⟩
  case round =>
    obtain ⟨j, hj, rfl, htr, hcr⟩ := hrel
    have HTR := Lib.hid htr; have HCR := Lib.hid hcr
    have hltr : C < wr.heap.size := by obtain ⟨_, _, q, _⟩ := hcr.open; exact q
    have hltG : G < wr.heap.size := hcr.gm.lt
    by_cases hjl : j < gs.length
    · obtain ⟨g, o, rfl, hg, hgl, hcap, hcl⟩ := HROW.out j hjl
      have hg' : g < base := hg
      have hold : ∀ q, q < 5 → wr.cell? ⟨g, o + j * 5 + q, none⟩ = (cellsG gs[j])[q]? := fun q hq => (htr.cell hgl (by omega) _).trans (hcl q hq)
      have hgr : g < wr.heap.size := Nat.lt_of_lt_of_le hgl htr.size
      have HSUC := Lib.hid (gbAt_succ hjl k)
      have HLEN := Lib.hid (show (gs[j]).name.length ≤ maxLen by have := HNM.out j hjl; unfold maxLen; omega)
      obtain ⟨hs1, hs2⟩ := HSAME.out j hj
      have HJ := Lib.hid (show j < (gbAt gs j k).gs.length by rw [hs1]; exact hjl)
      have HL := Lib.hid (show (gbAt gs j k).gm.length < maxLen by rw [hs2, HGM.out]; simp; unfold maxLen; omega)
      have HWF := Lib.hid (wf_nat (j := j) (by omega))
      generalize gs[j] = x at *
      generalize gbAt gs j k = kj at *
      obtain ⟨name, hold_, size, line, col⟩ := x
      have r0 : wr.cell? ⟨g, o + j * 5, none⟩ = some (.string ⟨name.toArray⟩) := hold 0 (by decide)
      have r1 : wr.cell? ⟨g, o + j * 5 + 1, none⟩ = some (.int .i64 hold_) := hold 1 (by decide)
      have r2 : wr.cell? ⟨g, o + j * 5 + 2, none⟩ = some (.int .i64 size) := hold 2 (by decide)
      have r3 : wr.cell? ⟨g, o + j * 5 + 3, none⟩ = some (.int .i64 line) := hold 3 (by decide)
      have r4 : wr.cell? ⟨g, o + j * 5 + 4, none⟩ = some (.int .i64 col) := hold 4 (by decide)
      clear htr hcr hold hcl hs1 hs2
      go_upto_region 3 with (fail)
      have hC := HCR.out.alloc (.cells #[.string ⟨name.toArray⟩, .int .i64 hold_, .int .i64 size, .int .i64 line, .int .i64 col] 51)
      have hB := alloc_at wr (.cells #[.string ⟨name.toArray⟩, .int .i64 hold_, .int .i64 size, .int .i64 line, .int .i64 col] 51) _ rfl
      have hT := HTR.out.alloc (.cells #[.string ⟨name.toArray⟩, .int .i64 hold_, .int .i64 size, .int .i64 line, .int .i64 col] 51)
      generalize wr.alloc (.cells #[.string ⟨name.toArray⟩, .int .i64 hold_, .int .i64 size, .int .i64 line, .int .i64 col] 51) = W at *
      obtain ⟨d0, d1, d2, d3, d4⟩ := own5 hB
      have hsz : wr.heap.size < W.heap.size := (Array.getElem?_eq_some_iff.1 hB).1
      have HCW := Lib.hid hC; have HTW := Lib.hid hT; have HBW := Lib.hid hB
      clear hC hT hB r0 r1 r2 r3 r4
      go_wp2_with (fail)
      refine (ckknown_any HCW.out name HLEN.out).mono ?_
      rintro e w3 ⟨rfl, rfl⟩
      rcases Bool.eq_false_or_eq_true (kj.known name) with hb1 | hb1 <;> by_cases hsm : j < 64
      · have b1 : kj.known name = true := hb1
        have b2 : decide ((64 : Int) ≤ j) = false := by simp; omega
        have b2' : decide (64 ≤ j) = false := by simp; omega
        have HST := Lib.hid (show stepG ⟨name, hold_, size, line, col⟩ j kj = { (kj.fail 20 line col) with gm := (name, some (j : Int)) :: (kj.fail 20 line col).gm } by
          have q1 : decide ((j : Int) < 64) = true := by simp; omega
          unfold stepG Ck.unless; rw [b1, q1]; rfl)
        clear hb1 hsm
        go_wp2_with (fail)
        refine (ckfail_any HCW.out 20 line col).mono ?_
        rintro e w4 ⟨rfl, ht4, hc4⟩
        have hb4 := (ht4.block _ hsz (by omega)).trans HBW.out
        obtain ⟨e40, e41, e42, e43, e44⟩ := own5 hb4
        have hsz4 : wr.heap.size < w4.heap.size := (Array.getElem?_eq_some_iff.1 hb4).1
        have HT4 := Lib.hid (HTW.out.trans (ht4.mono (fun _ q => .inl q))); have HC4 := Lib.hid hc4; have HB4 := Lib.hid hb4
        clear ht4 hc4 hb4
        go_upto_region 7 with (fail)
        have hC := HC4.out
        have HLK := Lib.hid (show (kj.fail 20 line col).gm.length < maxLen by rw [(same_fail kj 20 line col).2.2.1]; exact HL.out); have HJK := Lib.hid (show j < (kj.fail 20 line col).gs.length by rw [(same_fail kj 20 line col).1]; exact HJ.out)
        obtain ⟨w9, hrun, hnm9, hgr9⟩ := (hC.gm.keep (w' := w4.drew) rfl).put wInt uMapI HLK.out HLEN.out HWF.out
        obtain ⟨gv9, fv9, hltC, _, _, _, _, c29, _, _, _, _, _, _⟩ := hC.open
        have HN9 := Lib.hid hnm9; have HG9 := Lib.hid hgr9
        clear hC hnm9 hgr9 b1 b2 b2'
        go_region
        go_wp2_with (fail)
        go_roundw
        case rel => exact ⟨j + 1, by omega, by go_num, HT4.out.drew.trans (Turn.grown HG9.out (fun q hq => by cases hq; exact .inr rfl)), by rw [HSUC.out, HST.out]; exact HC4.out.drew.putG HG9.out HJK.out HN9.out⟩
        case measure => simp [intOf]; omega
      · have b1 : kj.known name = true := hb1
        have b2 : decide ((64 : Int) ≤ j) = true := by simp; omega
        have b2' : decide (64 ≤ j) = true := by simp; omega
        have HST := Lib.hid (show stepG ⟨name, hold_, size, line, col⟩ j kj = { ((kj.fail 20 line col).fail 3 line col) with gm := (name, some (j : Int)) :: ((kj.fail 20 line col).fail 3 line col).gm } by
          have q1 : decide ((j : Int) < 64) = false := by simp; omega
          unfold stepG Ck.unless; rw [b1, q1]; rfl)
        clear hb1 hsm
        go_wp2_with (fail)
        refine (ckfail_any HCW.out 20 line col).mono ?_
        rintro e w4 ⟨rfl, ht4, hc4⟩
        have hb4 := (ht4.block _ hsz (by omega)).trans HBW.out
        obtain ⟨e40, e41, e42, e43, e44⟩ := own5 hb4
        have hsz4 : wr.heap.size < w4.heap.size := (Array.getElem?_eq_some_iff.1 hb4).1
        have HT4 := Lib.hid (HTW.out.trans (ht4.mono (fun _ q => .inl q))); have HC4 := Lib.hid hc4; have HB4 := Lib.hid hb4
        clear ht4 hc4 hb4
        go_wp2_with (fail)
        refine (ckfail_any HC4.out 3 line col).mono ?_
        rintro e w5 ⟨rfl, ht5, hc5⟩
        have hb5 := (ht5.block _ hsz4 (by omega)).trans HB4.out
        obtain ⟨e50, e51, e52, e53, e54⟩ := own5 hb5
        have hsz5 : wr.heap.size < w5.heap.size := (Array.getElem?_eq_some_iff.1 hb5).1
        have HT5 := Lib.hid (HT4.out.trans (ht5.mono (fun _ q => .inl q))); have HC5 := Lib.hid hc5; have HB5 := Lib.hid hb5
        clear ht5 hc5 hb5
        go_upto_region 7 with (fail)
        have hC := HC5.out
        have HLK := Lib.hid (show ((kj.fail 20 line col).fail 3 line col).gm.length < maxLen by rw [((same_fail kj 20 line col).trans (same_fail _ 3 line col)).2.2.1]; exact HL.out); have HJK := Lib.hid (show j < ((kj.fail 20 line col).fail 3 line col).gs.length by rw [((same_fail kj 20 line col).trans (same_fail _ 3 line col)).1]; exact HJ.out)
        obtain ⟨w9, hrun, hnm9, hgr9⟩ := (hC.gm.keep (w' := w5.drew) rfl).put wInt uMapI HLK.out HLEN.out HWF.out
        obtain ⟨gv9, fv9, hltC, _, _, _, _, c29, _, _, _, _, _, _⟩ := hC.open
        have HN9 := Lib.hid hnm9; have HG9 := Lib.hid hgr9
        clear hC hnm9 hgr9 b1 b2 b2'
        go_region
        go_wp2_with (fail)
        go_roundw
        case rel => exact ⟨j + 1, by omega, by go_num, HT5.out.drew.trans (Turn.grown HG9.out (fun q hq => by cases hq; exact .inr rfl)), by rw [HSUC.out, HST.out]; exact HC5.out.drew.putG HG9.out HJK.out HN9.out⟩
        case measure => simp [intOf]; omega
      · have b1 : kj.known name = false := hb1
        have b2 : decide ((64 : Int) ≤ j) = false := by simp; omega
        have b2' : decide (64 ≤ j) = false := by simp; omega
        have HST := Lib.hid (show stepG ⟨name, hold_, size, line, col⟩ j kj = { (kj) with gm := (name, some (j : Int)) :: (kj).gm } by
          have q1 : decide ((j : Int) < 64) = true := by simp; omega
          unfold stepG Ck.unless; rw [b1, q1]; rfl)
        clear hb1 hsm
        go_upto_region 7 with (fail)
        have hC := HCW.out
        have HLK := HL; have HJK := HJ
        obtain ⟨w9, hrun, hnm9, hgr9⟩ := (hC.gm.keep (w' := w3.drew) rfl).put wInt uMapI HLK.out HLEN.out HWF.out
        obtain ⟨gv9, fv9, hltC, _, _, _, _, c29, _, _, _, _, _, _⟩ := hC.open
        have HN9 := Lib.hid hnm9; have HG9 := Lib.hid hgr9
        clear hC hnm9 hgr9 b1 b2 b2'
        go_region
        go_wp2_with (fail)
        go_roundw
        case rel => exact ⟨j + 1, by omega, by go_num, HTW.out.drew.trans (Turn.grown HG9.out (fun q hq => by cases hq; exact .inr rfl)), by rw [HSUC.out, HST.out]; exact HCW.out.drew.putG HG9.out HJK.out HN9.out⟩
        case measure => simp [intOf]; omega
      · have b1 : kj.known name = false := hb1
        have b2 : decide ((64 : Int) ≤ j) = true := by simp; omega
        have b2' : decide (64 ≤ j) = true := by simp; omega
        have HST := Lib.hid (show stepG ⟨name, hold_, size, line, col⟩ j kj = { ((kj).fail 3 line col) with gm := (name, some (j : Int)) :: ((kj).fail 3 line col).gm } by
          have q1 : decide ((j : Int) < 64) = false := by simp; omega
          unfold stepG Ck.unless; rw [b1, q1]; rfl)
        clear hb1 hsm
        go_wp2_with (fail)
        refine (ckfail_any HCW.out 3 line col).mono ?_
        rintro e w4 ⟨rfl, ht4, hc4⟩
        have hb4 := (ht4.block _ hsz (by omega)).trans HBW.out
        obtain ⟨e40, e41, e42, e43, e44⟩ := own5 hb4
        have hsz4 : wr.heap.size < w4.heap.size := (Array.getElem?_eq_some_iff.1 hb4).1
        have HT4 := Lib.hid (HTW.out.trans (ht4.mono (fun _ q => .inl q))); have HC4 := Lib.hid hc4; have HB4 := Lib.hid hb4
        clear ht4 hc4 hb4
        go_upto_region 7 with (fail)
        have hC := HC4.out
        have HLK := Lib.hid (show ((kj).fail 3 line col).gm.length < maxLen by rw [(same_fail kj 3 line col).2.2.1]; exact HL.out); have HJK := Lib.hid (show j < ((kj).fail 3 line col).gs.length by rw [(same_fail kj 3 line col).1]; exact HJ.out)
        obtain ⟨w9, hrun, hnm9, hgr9⟩ := (hC.gm.keep (w' := w4.drew) rfl).put wInt uMapI HLK.out HLEN.out HWF.out
        obtain ⟨gv9, fv9, hltC, _, _, _, _, c29, _, _, _, _, _, _⟩ := hC.open
        have HN9 := Lib.hid hnm9; have HG9 := Lib.hid hgr9
        clear hC hnm9 hgr9 b1 b2 b2'
        go_region
        go_wp2_with (fail)
        go_roundw
        case rel => exact ⟨j + 1, by omega, by go_num, HT4.out.drew.trans (Turn.grown HG9.out (fun q hq => by cases hq; exact .inr rfl)), by rw [HSUC.out, HST.out]; exact HC4.out.drew.putG HG9.out HJK.out HN9.out⟩
        case measure => simp [intOf]; omega
    · obtain rfl : j = gs.length := by omega
      have HALL := Lib.hid (gbAt_all gs k)
      rw [HALL.out] at HCR
      clear htr hcr
      go_wp2_with (fail)
      go_end0
      exact ⟨rfl, HTR.out, HCR.out⟩
end Go.Proofs.YtaomlahphlemdaaGreatDoor

namespace Go.Proofs.YtaomlahphlemdaaGreatDoor
open Go.ChangeShapes Go.WideShapes Go.ChangeAt Go.RowKit
set_option linter.unusedVariables false

def okFn (f : Fn) (i : Int) : Bool := decide (i < 256) && decide (f.params.length ≤ 6)
def stepF (f : Fn) (i : Int) (c : Ck) : Ck := { ((c.unless (!c.known f.name) 20 f.line f.col).unless (okFn f i) 3 f.line f.col) with fm := (f.name, some i) :: ((c.unless (!c.known f.name) 20 f.line f.col).unless (okFn f i) 3 f.line f.col).fm }
theorem ckFuncs_snoc : ∀ (l : List Fn) (g : Fn) (i : Int) (k : Ck), ckFuncs (l ++ [g]) i k = stepF g (i + l.length) (ckFuncs l i k)
  | [], g, i, k => by simp [ckFuncs, stepF, okFn]
  | a :: l, g, i, k => by
    simp only [List.cons_append, ckFuncs]
    rw [ckFuncs_snoc l g (i + 1)]
    congr 1
    simp; omega
def fnsAt (l : List Fn) (i : Nat) (k : Ck) : Ck := ckFuncs (l.take i) 0 k
theorem fnsAt_succ {l : List Fn} {i : Nat} (h : i < l.length) (k : Ck) : fnsAt l (i + 1) k = stepF l[i] i (fnsAt l i k) := by
  unfold fnsAt; rw [List.take_succ_eq_append_getElem h, ckFuncs_snoc]
  congr 1
  rw [List.length_take]; omega
theorem fnsAt_all (l : List Fn) (k : Ck) : fnsAt l l.length k = ckFuncs l 0 k := by unfold fnsAt; rw [List.take_length]
theorem stepF_same (g : Fn) (i : Int) (c : Ck) : (stepF g i c).gs = c.gs ∧ (stepF g i c).fs = c.fs ∧ (stepF g i c).gm = c.gm ∧ (stepF g i c).lm = c.lm ∧ (stepF g i c).fm = (g.name, some i) :: c.fm := by
  have h := (same_unless c (!c.known g.name) 20 g.line g.col).trans (same_unless _ (okFn g i) 3 g.line g.col)
  exact ⟨h.1, h.2.1, h.2.2.1, h.2.2.2.2, by show _ :: _ = _; rw [h.2.2.2.1]⟩
theorem fnsAt_same (l : List Fn) (k : Ck) : ∀ i, i ≤ l.length → (fnsAt l i k).fs = k.fs ∧ (fnsAt l i k).fm.length = k.fm.length + i
  | 0, _ => ⟨rfl, rfl⟩
  | i + 1, h => by
    obtain ⟨h1, h2⟩ := fnsAt_same l k i (by omega)
    obtain ⟨_, s1, _, _, s5⟩ := stepF_same l[i] i (fnsAt l i k)
    rw [fnsAt_succ (by omega)]
    exact ⟨s1.trans h1, by rw [s5]; simp [h2]; omega⟩
/-- The functions' map has turned. -/
theorem Checks.putF {base C G F : Nat} {lv : Value} {k : Ck} {w w' : World} {x : List UInt8} {j : Nat} (h : Checks base C G F lv k w) (hg : w.grownBy w' (some F)) (hj : j < k.fs.length) (hm : NM 3 w' F ((x, some (j : Int)) :: k.fm)) : Checks base C G F lv { k with fm := (x, some (j : Int)) :: k.fm } w' := by
  obtain ⟨⟨gv, fv, hb, h1, h2⟩, h3, h4, h5, h6, h7, h8, h9⟩ := h
  have hCF : C ≠ F := (map_ne h4 hb).symm
  have hcl := (Array.getElem?_eq_some_iff.1 hb).1
  have hk : ∀ g, g < base → g < w.heap.size → ∀ o, w'.cell? ⟨g, o, none⟩ = w.cell? ⟨g, o, none⟩ := fun g hg' hl o => World.cell?_of_block (hg.block g hl (by have := h6.2.2.1; simp; omega))
  refine ⟨⟨gv, fv, (hg.block C hcl (by simpa using hCF)).trans hb, h1.keep hg.size (fun g hg _ => hg) hk, h2.keep hg.size (fun g hg _ => hg) hk⟩, h3.keep (hg.block G h3.lt (by simpa using h7)), hm, ?_, h6, h7, h8, fun y i hy => ?_⟩
  · rcases h5 with h5 | ⟨L, rfl, h5⟩
    · exact .inl h5
    · exact .inr ⟨L, rfl, h5.keep (hg.block L h5.lt (by simpa using (h6.2.2.2 L rfl).2.2))⟩
  · simp only [look] at hy
    split at hy
    · cases hy; exact ⟨j, rfl, hj⟩
    · exact h9 y i hy
/-- Functions, cell by cell. -/
theorem fn_cells {w : World} {S : Nat → Prop} {fs : List Fn} {fv : Value} (h : FnsAt w S fs fv) : ∃ a cap, fv = .slice a fs.length cap ∧ fs.length ≤ 4611686018427387904 ∧ (∀ j (hj : j < fs.length), ∃ g o pa pc ba bn bc, a = some ⟨g, o, none⟩ ∧ S g ∧ g < w.heap.size ∧ fs.length ≤ cap ∧ StrsAt w S fs[j].params (.slice pa fs[j].params.length pc) ∧ BodyAt w S fs[j].body (.slice ba bn bc) ∧ ∀ i, i < 5 → w.cell? ⟨g, o + j * 5 + i, none⟩ = (cellsF fs[j].name (.slice pa fs[j].params.length pc) (.slice ba bn bc) fs[j].line fs[j].col)[i]?) := by
  rcases h with ⟨rfl, a, cap, rfl⟩ | ⟨_, g, o, cap, rfl, hS, hlt, h1, h2, h3⟩
  · exact ⟨a, cap, rfl, by simp, fun j hj => by simp at hj⟩
  · refine ⟨_, cap, rfl, h2, fun j hj => ?_⟩
    obtain ⟨cs, ⟨pv, bv, rfl, hp, hb⟩, hc⟩ := h3 j fs[j] (List.getElem?_eq_getElem hj)
    have e1 : ∃ pa pc, pv = .slice pa fs[j].params.length pc := by
      rcases hp with ⟨hp, a, cap', rfl⟩ | ⟨_, g', o', cap', rfl, _⟩
      · exact ⟨_, _, by rw [hp]; rfl⟩
      · exact ⟨_, _, rfl⟩
    obtain ⟨pa, pc, rfl⟩ := e1
    obtain ⟨ba, bn, bc, rfl⟩ := hb.slice
    exact ⟨g, o, pa, pc, ba, bn, bc, rfl, hS, hlt, h1, hp, hb, fun i hi => by rw [show o + j * 5 + i = o + (5 * j + i) by omega]; exact hc i hi⟩
set_option maxHeartbeats 8000000 in
set_option maxRecDepth 100000 in
theorem functions_ck {base C G F : Nat} {lv : Value} {k : Ck} {w : World} (h : Checks base C G F lv k w) (hfm : k.fm = []) (hnm : ∀ i (hi : i < k.fs.length), (k.fs[i]).name.length ≤ 65536) :
    Calls Tryz.prog 40 #[.pointer (some ⟨C, 0, none⟩)] w (fun e w' => e = .returned (.tuple #[]) ∧ Turn (fun q => q = C ∨ q = F) w w' ∧ Checks base C G F lv (ckFuncs k.fs 0 k) w') := by
  obtain ⟨gv, fv, hlt, hgl, hfn, c0, c1, c2, c3, c4, _, _, _, _⟩ := h.open
  obtain ⟨a, cap, rfl, hmax, hrow⟩ := fn_cells hfn
  have HC := Lib.hid h; have HROW := Lib.hid hrow; have HNM := Lib.hid hnm; have HFM := Lib.hid hfm
  have hlow := h.low.1
  have hlowF := h.low.2.2.1
  have HSAME := Lib.hid (fnsAt_same k.fs k)
  clear h hgl hfn hrow hnm hfm
  generalize hfs : k.fs = fs at *
  have HFS := Lib.hid hfs
  clear hfs
  go_enter Tryz.func40, Tryz.ntmps40
  go_wp2_with (fail)
  go_loopw [10] (fun i wr => ∃ j : Nat, j ≤ fs.length ∧ i = .int .i64 j ∧ Turn (fun q => q = C ∨ q = F) w wr ∧ Checks base C G F lv (fnsAt fs j k) wr) (fun i _ => fs.length - (intOf i).toNat)
  case atStart => exact ⟨0, Nat.zero_le _, rfl, Turn.refl _ _, HC.out⟩
  case round =>
    obtain ⟨j, hj, rfl, htr, hcr⟩ := hrel
    have HTR := Lib.hid htr; have HCR := Lib.hid hcr
    have hltr : C < wr.heap.size := by obtain ⟨_, _, q, _⟩ := hcr.open; exact q
    by_cases hjl : j < fs.length
    · obtain ⟨g, o, pa, pc, ba, bn, bc, rfl, hg, hgl, hcap, hps, hbs, hcl⟩ := HROW.out j hjl
      have hg' : g < base := hg
      have hold : ∀ q, q < 5 → wr.cell? ⟨g, o + j * 5 + q, none⟩ = (cellsF fs[j].name (.slice pa fs[j].params.length pc) (.slice ba bn bc) fs[j].line fs[j].col)[q]? := fun q hq => (htr.cell hgl (by omega) _).trans (hcl q hq)
      have hgr : g < wr.heap.size := Nat.lt_of_lt_of_le hgl htr.size
      have HSUC := Lib.hid (fnsAt_succ hjl k)
      have HLEN := Lib.hid (show (fs[j]).name.length ≤ maxLen by have := HNM.out j hjl; unfold maxLen; omega)
      obtain ⟨hs1, hs2⟩ := HSAME.out j hj
      have HJ := Lib.hid (show j < (fnsAt fs j k).fs.length by rw [hs1]; exact hjl)
      have HL := Lib.hid (show (fnsAt fs j k).fm.length < maxLen by rw [hs2, HFM.out]; simp; unfold maxLen; omega)
      have HWF := Lib.hid (wf_nat (j := j) (by omega))
      clear hps hbs
      generalize fs[j] = x at *
      generalize fnsAt fs j k = kj at *
      obtain ⟨name, params, body, line, col⟩ := x
      have r0 : wr.cell? ⟨g, o + j * 5, none⟩ = some (.string ⟨name.toArray⟩) := hold 0 (by decide)
      have r1 : wr.cell? ⟨g, o + j * 5 + 1, none⟩ = some (.slice pa params.length pc) := hold 1 (by decide)
      have r2 : wr.cell? ⟨g, o + j * 5 + 2, none⟩ = some (.slice ba bn bc) := hold 2 (by decide)
      have r3 : wr.cell? ⟨g, o + j * 5 + 3, none⟩ = some (.int .i64 line) := hold 3 (by decide)
      have r4 : wr.cell? ⟨g, o + j * 5 + 4, none⟩ = some (.int .i64 col) := hold 4 (by decide)
      clear htr hcr hold hcl hs1 hs2
      have HOKF := Lib.hid (show okFn ⟨name, params, body, line, col⟩ j = (decide ((j : Int) < 256) && decide (params.length ≤ 6)) from rfl)
      generalize params.length = pn at *
      go_upto_region 3 with (fail)
      have hC := HCR.out.alloc (.cells #[.string ⟨name.toArray⟩, .slice pa pn pc, .slice ba bn bc, .int .i64 line, .int .i64 col] 58)
      have hB := alloc_at wr (.cells #[.string ⟨name.toArray⟩, .slice pa pn pc, .slice ba bn bc, .int .i64 line, .int .i64 col] 58) _ rfl
      have hT := HTR.out.alloc (.cells #[.string ⟨name.toArray⟩, .slice pa pn pc, .slice ba bn bc, .int .i64 line, .int .i64 col] 58)
      generalize wr.alloc (.cells #[.string ⟨name.toArray⟩, .slice pa pn pc, .slice ba bn bc, .int .i64 line, .int .i64 col] 58) = W at *
      obtain ⟨d0, d1, d2, d3, d4⟩ := own5 hB
      have hsz : wr.heap.size < W.heap.size := (Array.getElem?_eq_some_iff.1 hB).1
      have HCW := Lib.hid hC; have HTW := Lib.hid hT; have HBW := Lib.hid hB
      clear hC hT hB r0 r1 r2 r3 r4
      go_wp2_with (fail)
      refine (ckknown_any HCW.out name HLEN.out).mono ?_
      rintro e w3 ⟨rfl, rfl⟩
      have hmo : (j < 256 ∧ pn ≤ 6) ∨ 256 ≤ j ∨ (j < 256 ∧ 6 < pn) := by omega
      rcases Bool.eq_false_or_eq_true (kj.known name) with hb1 | hb1 <;> rcases hmo with hmo | hmo | hmo
      · have b1 : kj.known name = true := hb1
        have b2 : decide ((256 : Int) ≤ j) = false := by simp; omega
        have b2' : decide (256 ≤ j) = false := by simp; omega
        have b3 : decide ((6 : Int) < pn) = false := by simp; omega
        have b3' : decide (6 < pn) = false := by simp; omega
        have HST := Lib.hid (show stepF ⟨name, params, body, line, col⟩ j kj = { (kj.fail 20 line col) with fm := (name, some (j : Int)) :: (kj.fail 20 line col).fm } by
          have q1 : (decide ((j : Int) < 256) && decide (pn ≤ 6)) = true := by simp; omega
          unfold stepF Ck.unless; rw [HOKF.out, b1, q1]; rfl)
        clear hb1 hmo
        go_wp2_with (fail)
        refine (ckfail_any HCW.out 20 line col).mono ?_
        rintro e w4 ⟨rfl, ht4, hc4⟩
        have hb4 := (ht4.block _ hsz (by omega)).trans HBW.out
        obtain ⟨e40, e41, e42, e43, e44⟩ := own5 hb4
        have hsz4 : wr.heap.size < w4.heap.size := (Array.getElem?_eq_some_iff.1 hb4).1
        have HT4 := Lib.hid (HTW.out.trans (ht4.mono (fun _ q => .inl q))); have HC4 := Lib.hid hc4; have HB4 := Lib.hid hb4
        clear ht4 hc4 hb4
        go_upto_region 7 with (fail)
        have hC := HC4.out
        have HLK := Lib.hid (show (kj.fail 20 line col).fm.length < maxLen by rw [(same_fail kj 20 line col).2.2.2.1]; exact HL.out); have HJK := Lib.hid (show j < (kj.fail 20 line col).fs.length by rw [(same_fail kj 20 line col).2.1]; exact HJ.out)
        obtain ⟨w9, hrun, hnm9, hgr9⟩ := (hC.fm.keep (w' := w4.drew) rfl).put wInt uMapI HLK.out HLEN.out HWF.out
        obtain ⟨gv9, fv9, hltC, _, _, _, _, _, c39, _, _, _, _, _⟩ := hC.open
        have HN9 := Lib.hid hnm9; have HG9 := Lib.hid hgr9
        clear hC hnm9 hgr9 b1 b2 b2'
        go_region
        go_wp2_with (fail)
        go_roundw
        case rel => exact ⟨j + 1, by omega, by go_num, HT4.out.drew.trans (Turn.grown HG9.out (fun q hq => by cases hq; exact .inr rfl)), by rw [HSUC.out, HST.out]; exact HC4.out.drew.putF HG9.out HJK.out HN9.out⟩
        case measure => simp [intOf]; omega
      · have b1 : kj.known name = true := hb1
        have b2 : decide ((256 : Int) ≤ j) = true := by simp; omega
        have b2' : decide (256 ≤ j) = true := by simp; omega
        have HST := Lib.hid (show stepF ⟨name, params, body, line, col⟩ j kj = { ((kj.fail 20 line col).fail 3 line col) with fm := (name, some (j : Int)) :: ((kj.fail 20 line col).fail 3 line col).fm } by
          have q1 : (decide ((j : Int) < 256) && decide (pn ≤ 6)) = false := by simp; omega
          unfold stepF Ck.unless; rw [HOKF.out, b1, q1]; rfl)
        clear hb1 hmo
        go_wp2_with (fail)
        refine (ckfail_any HCW.out 20 line col).mono ?_
        rintro e w4 ⟨rfl, ht4, hc4⟩
        have hb4 := (ht4.block _ hsz (by omega)).trans HBW.out
        obtain ⟨e40, e41, e42, e43, e44⟩ := own5 hb4
        have hsz4 : wr.heap.size < w4.heap.size := (Array.getElem?_eq_some_iff.1 hb4).1
        have HT4 := Lib.hid (HTW.out.trans (ht4.mono (fun _ q => .inl q))); have HC4 := Lib.hid hc4; have HB4 := Lib.hid hb4
        clear ht4 hc4 hb4
        go_wp2_with (fail)
        refine (ckfail_any HC4.out 3 line col).mono ?_
        rintro e w5 ⟨rfl, ht5, hc5⟩
        have hb5 := (ht5.block _ hsz4 (by omega)).trans HB4.out
        obtain ⟨e50, e51, e52, e53, e54⟩ := own5 hb5
        have hsz5 : wr.heap.size < w5.heap.size := (Array.getElem?_eq_some_iff.1 hb5).1
        have HT5 := Lib.hid (HT4.out.trans (ht5.mono (fun _ q => .inl q))); have HC5 := Lib.hid hc5; have HB5 := Lib.hid hb5
        clear ht5 hc5 hb5
        go_upto_region 7 with (fail)
        have hC := HC5.out
        have HLK := Lib.hid (show ((kj.fail 20 line col).fail 3 line col).fm.length < maxLen by rw [((same_fail kj 20 line col).trans (same_fail _ 3 line col)).2.2.2.1]; exact HL.out); have HJK := Lib.hid (show j < ((kj.fail 20 line col).fail 3 line col).fs.length by rw [((same_fail kj 20 line col).trans (same_fail _ 3 line col)).2.1]; exact HJ.out)
        obtain ⟨w9, hrun, hnm9, hgr9⟩ := (hC.fm.keep (w' := w5.drew) rfl).put wInt uMapI HLK.out HLEN.out HWF.out
        obtain ⟨gv9, fv9, hltC, _, _, _, _, _, c39, _, _, _, _, _⟩ := hC.open
        have HN9 := Lib.hid hnm9; have HG9 := Lib.hid hgr9
        clear hC hnm9 hgr9 b1 b2 b2'
        go_region
        go_wp2_with (fail)
        go_roundw
        case rel => exact ⟨j + 1, by omega, by go_num, HT5.out.drew.trans (Turn.grown HG9.out (fun q hq => by cases hq; exact .inr rfl)), by rw [HSUC.out, HST.out]; exact HC5.out.drew.putF HG9.out HJK.out HN9.out⟩
        case measure => simp [intOf]; omega
      · have b1 : kj.known name = true := hb1
        have b2 : decide ((256 : Int) ≤ j) = false := by simp; omega
        have b2' : decide (256 ≤ j) = false := by simp; omega
        have b3 : decide ((6 : Int) < pn) = true := by simp; omega
        have b3' : decide (6 < pn) = true := by simp; omega
        have HST := Lib.hid (show stepF ⟨name, params, body, line, col⟩ j kj = { ((kj.fail 20 line col).fail 3 line col) with fm := (name, some (j : Int)) :: ((kj.fail 20 line col).fail 3 line col).fm } by
          have q1 : (decide ((j : Int) < 256) && decide (pn ≤ 6)) = false := by simp; omega
          unfold stepF Ck.unless; rw [HOKF.out, b1, q1]; rfl)
        clear hb1 hmo
        go_wp2_with (fail)
        refine (ckfail_any HCW.out 20 line col).mono ?_
        rintro e w4 ⟨rfl, ht4, hc4⟩
        have hb4 := (ht4.block _ hsz (by omega)).trans HBW.out
        obtain ⟨e40, e41, e42, e43, e44⟩ := own5 hb4
        have hsz4 : wr.heap.size < w4.heap.size := (Array.getElem?_eq_some_iff.1 hb4).1
        have HT4 := Lib.hid (HTW.out.trans (ht4.mono (fun _ q => .inl q))); have HC4 := Lib.hid hc4; have HB4 := Lib.hid hb4
        clear ht4 hc4 hb4
        go_wp2_with (fail)
        refine (ckfail_any HC4.out 3 line col).mono ?_
        rintro e w5 ⟨rfl, ht5, hc5⟩
        have hb5 := (ht5.block _ hsz4 (by omega)).trans HB4.out
        obtain ⟨e50, e51, e52, e53, e54⟩ := own5 hb5
        have hsz5 : wr.heap.size < w5.heap.size := (Array.getElem?_eq_some_iff.1 hb5).1
        have HT5 := Lib.hid (HT4.out.trans (ht5.mono (fun _ q => .inl q))); have HC5 := Lib.hid hc5; have HB5 := Lib.hid hb5
        clear ht5 hc5 hb5
        go_upto_region 7 with (fail)
        have hC := HC5.out
        have HLK := Lib.hid (show ((kj.fail 20 line col).fail 3 line col).fm.length < maxLen by rw [((same_fail kj 20 line col).trans (same_fail _ 3 line col)).2.2.2.1]; exact HL.out); have HJK := Lib.hid (show j < ((kj.fail 20 line col).fail 3 line col).fs.length by rw [((same_fail kj 20 line col).trans (same_fail _ 3 line col)).2.1]; exact HJ.out)
        obtain ⟨w9, hrun, hnm9, hgr9⟩ := (hC.fm.keep (w' := w5.drew) rfl).put wInt uMapI HLK.out HLEN.out HWF.out
        obtain ⟨gv9, fv9, hltC, _, _, _, _, _, c39, _, _, _, _, _⟩ := hC.open
        have HN9 := Lib.hid hnm9; have HG9 := Lib.hid hgr9
        clear hC hnm9 hgr9 b1 b2 b2'
        go_region
        go_wp2_with (fail)
        go_roundw
        case rel => exact ⟨j + 1, by omega, by go_num, HT5.out.drew.trans (Turn.grown HG9.out (fun q hq => by cases hq; exact .inr rfl)), by rw [HSUC.out, HST.out]; exact HC5.out.drew.putF HG9.out HJK.out HN9.out⟩
        case measure => simp [intOf]; omega
      · have b1 : kj.known name = false := hb1
        have b2 : decide ((256 : Int) ≤ j) = false := by simp; omega
        have b2' : decide (256 ≤ j) = false := by simp; omega
        have b3 : decide ((6 : Int) < pn) = false := by simp; omega
        have b3' : decide (6 < pn) = false := by simp; omega
        have HST := Lib.hid (show stepF ⟨name, params, body, line, col⟩ j kj = { (kj) with fm := (name, some (j : Int)) :: (kj).fm } by
          have q1 : (decide ((j : Int) < 256) && decide (pn ≤ 6)) = true := by simp; omega
          unfold stepF Ck.unless; rw [HOKF.out, b1, q1]; rfl)
        clear hb1 hmo
        go_upto_region 7 with (fail)
        have hC := HCW.out
        have HLK := HL; have HJK := HJ
        obtain ⟨w9, hrun, hnm9, hgr9⟩ := (hC.fm.keep (w' := w3.drew) rfl).put wInt uMapI HLK.out HLEN.out HWF.out
        obtain ⟨gv9, fv9, hltC, _, _, _, _, _, c39, _, _, _, _, _⟩ := hC.open
        have HN9 := Lib.hid hnm9; have HG9 := Lib.hid hgr9
        clear hC hnm9 hgr9 b1 b2 b2'
        go_region
        go_wp2_with (fail)
        go_roundw
        case rel => exact ⟨j + 1, by omega, by go_num, HTW.out.drew.trans (Turn.grown HG9.out (fun q hq => by cases hq; exact .inr rfl)), by rw [HSUC.out, HST.out]; exact HCW.out.drew.putF HG9.out HJK.out HN9.out⟩
        case measure => simp [intOf]; omega
      · have b1 : kj.known name = false := hb1
        have b2 : decide ((256 : Int) ≤ j) = true := by simp; omega
        have b2' : decide (256 ≤ j) = true := by simp; omega
        have HST := Lib.hid (show stepF ⟨name, params, body, line, col⟩ j kj = { ((kj).fail 3 line col) with fm := (name, some (j : Int)) :: ((kj).fail 3 line col).fm } by
          have q1 : (decide ((j : Int) < 256) && decide (pn ≤ 6)) = false := by simp; omega
          unfold stepF Ck.unless; rw [HOKF.out, b1, q1]; rfl)
        clear hb1 hmo
        go_wp2_with (fail)
        refine (ckfail_any HCW.out 3 line col).mono ?_
        rintro e w4 ⟨rfl, ht4, hc4⟩
        have hb4 := (ht4.block _ hsz (by omega)).trans HBW.out
        obtain ⟨e40, e41, e42, e43, e44⟩ := own5 hb4
        have hsz4 : wr.heap.size < w4.heap.size := (Array.getElem?_eq_some_iff.1 hb4).1
        have HT4 := Lib.hid (HTW.out.trans (ht4.mono (fun _ q => .inl q))); have HC4 := Lib.hid hc4; have HB4 := Lib.hid hb4
        clear ht4 hc4 hb4
        go_upto_region 7 with (fail)
        have hC := HC4.out
        have HLK := Lib.hid (show ((kj).fail 3 line col).fm.length < maxLen by rw [(same_fail kj 3 line col).2.2.2.1]; exact HL.out); have HJK := Lib.hid (show j < ((kj).fail 3 line col).fs.length by rw [(same_fail kj 3 line col).2.1]; exact HJ.out)
        obtain ⟨w9, hrun, hnm9, hgr9⟩ := (hC.fm.keep (w' := w4.drew) rfl).put wInt uMapI HLK.out HLEN.out HWF.out
        obtain ⟨gv9, fv9, hltC, _, _, _, _, _, c39, _, _, _, _, _⟩ := hC.open
        have HN9 := Lib.hid hnm9; have HG9 := Lib.hid hgr9
        clear hC hnm9 hgr9 b1 b2 b2'
        go_region
        go_wp2_with (fail)
        go_roundw
        case rel => exact ⟨j + 1, by omega, by go_num, HT4.out.drew.trans (Turn.grown HG9.out (fun q hq => by cases hq; exact .inr rfl)), by rw [HSUC.out, HST.out]; exact HC4.out.drew.putF HG9.out HJK.out HN9.out⟩
        case measure => simp [intOf]; omega
      · have b1 : kj.known name = false := hb1
        have b2 : decide ((256 : Int) ≤ j) = false := by simp; omega
        have b2' : decide (256 ≤ j) = false := by simp; omega
        have b3 : decide ((6 : Int) < pn) = true := by simp; omega
        have b3' : decide (6 < pn) = true := by simp; omega
        have HST := Lib.hid (show stepF ⟨name, params, body, line, col⟩ j kj = { ((kj).fail 3 line col) with fm := (name, some (j : Int)) :: ((kj).fail 3 line col).fm } by
          have q1 : (decide ((j : Int) < 256) && decide (pn ≤ 6)) = false := by simp; omega
          unfold stepF Ck.unless; rw [HOKF.out, b1, q1]; rfl)
        clear hb1 hmo
        go_wp2_with (fail)
        refine (ckfail_any HCW.out 3 line col).mono ?_
        rintro e w4 ⟨rfl, ht4, hc4⟩
        have hb4 := (ht4.block _ hsz (by omega)).trans HBW.out
        obtain ⟨e40, e41, e42, e43, e44⟩ := own5 hb4
        have hsz4 : wr.heap.size < w4.heap.size := (Array.getElem?_eq_some_iff.1 hb4).1
        have HT4 := Lib.hid (HTW.out.trans (ht4.mono (fun _ q => .inl q))); have HC4 := Lib.hid hc4; have HB4 := Lib.hid hb4
        clear ht4 hc4 hb4
        go_upto_region 7 with (fail)
        have hC := HC4.out
        have HLK := Lib.hid (show ((kj).fail 3 line col).fm.length < maxLen by rw [(same_fail kj 3 line col).2.2.2.1]; exact HL.out); have HJK := Lib.hid (show j < ((kj).fail 3 line col).fs.length by rw [(same_fail kj 3 line col).2.1]; exact HJ.out)
        obtain ⟨w9, hrun, hnm9, hgr9⟩ := (hC.fm.keep (w' := w4.drew) rfl).put wInt uMapI HLK.out HLEN.out HWF.out
        obtain ⟨gv9, fv9, hltC, _, _, _, _, _, c39, _, _, _, _, _⟩ := hC.open
        have HN9 := Lib.hid hnm9; have HG9 := Lib.hid hgr9
        clear hC hnm9 hgr9 b1 b2 b2'
        go_region
        go_wp2_with (fail)
        go_roundw
        case rel => exact ⟨j + 1, by omega, by go_num, HT4.out.drew.trans (Turn.grown HG9.out (fun q hq => by cases hq; exact .inr rfl)), by rw [HSUC.out, HST.out]; exact HC4.out.drew.putF HG9.out HJK.out HN9.out⟩
        case measure => simp [intOf]; omega
    · obtain rfl : j = fs.length := by omega
      have HALL := Lib.hid (fnsAt_all fs k)
      rw [HALL.out] at HCR
      clear htr hcr
      go_wp2_with (fail)
      go_end0
      exact ⟨rfl, HTR.out, HCR.out⟩
end Go.Proofs.YtaomlahphlemdaaGreatDoor

namespace Go.Proofs.YtaomlahphlemdaaGreatDoor
open Go.ChangeShapes Go.WideShapes Go.ChangeAt Go.RowKit
set_option linter.unusedVariables false

def stepP (l c : Int) (x : List UInt8) (k : Ck) : Ck := { (k.unless (!k.known x) 20 l c) with lm := (x, some 1) :: (k.unless (!k.known x) 20 l c).lm }
theorem ckParams_snoc (l c : Int) : ∀ (xs : List (List UInt8)) (x : List UInt8) (k : Ck), ckParams l c (xs ++ [x]) k = stepP l c x (ckParams l c xs k)
  | [], x, k => by simp [ckParams, stepP]
  | a :: xs, x, k => by simp only [List.cons_append, ckParams]; exact ckParams_snoc l c xs x _
def paAt (l c : Int) (xs : List (List UInt8)) (i : Nat) (k : Ck) : Ck := ckParams l c (xs.take i) k
theorem paAt_succ {l c : Int} {xs : List (List UInt8)} {i : Nat} (h : i < xs.length) (k : Ck) : paAt l c xs (i + 1) k = stepP l c xs[i] (paAt l c xs i k) := by
  unfold paAt; rw [List.take_succ_eq_append_getElem h, ckParams_snoc]
theorem paAt_all (l c : Int) (xs : List (List UInt8)) (k : Ck) : paAt l c xs xs.length k = ckParams l c xs k := by unfold paAt; rw [List.take_length]
theorem stepP_lm (l c : Int) (x : List UInt8) (k : Ck) : (stepP l c x k).lm = (x, some 1) :: k.lm := by
  show _ :: _ = _; rw [(same_unless k (!k.known x) 20 l c).2.2.2.2]
theorem paAt_lm (l c : Int) (xs : List (List UInt8)) (k : Ck) (ht : Typed k) : ∀ i, i ≤ xs.length → (paAt l c xs i k).lm.length = k.lm.length + i ∧ Typed (paAt l c xs i k)
  | 0, _ => ⟨rfl, ht⟩
  | i + 1, h => by
    obtain ⟨h1, h2⟩ := paAt_lm l c xs k ht i (by omega)
    rw [paAt_succ (by omega)]
    refine ⟨by rw [stepP_lm]; simp [h1]; omega, fun y t hy => ?_⟩
    rw [stepP_lm] at hy
    simp only [look] at hy
    split at hy
    · cases hy; omega
    · exact h2 y t hy
/-- A new map for the locals. -/
theorem Checks.newL {base C G F : Nat} {lv : Value} {k : Ck} {w : World} (h : Checks base C G F lv k w) : Checks base C G F (.map (some w.heap.size)) { k with lm := [] } ((w.alloc (.map #[] 0)).setCell ⟨C, 4, none⟩ (.map (some w.heap.size))) := by
  have h' := h.alloc (.map #[] 0)
  have hlow := h.low
  have hGlt := h.gm.lt
  have hFlt := h.fm.lt
  have hClt : C < w.heap.size := by obtain ⟨_, _, q, _⟩ := h.open; exact q
  obtain ⟨⟨gv, fv, hb, h1, h2⟩, h3, h4, h5, h6, h7, h8, h9⟩ := h'
  have ht : Turn (· = C) (w.alloc (.map #[] 0)) ((w.alloc (.map #[] 0)).setCell ⟨C, 4, none⟩ (.map (some w.heap.size))) := (Turn.refl (· = C) _).put C 4 _ (.inl rfl)
  have hk : ∀ g, g < base → g < (w.alloc (.map #[] 0)).heap.size → ∀ o, ((w.alloc (.map #[] 0)).setCell ⟨C, 4, none⟩ (.map (some w.heap.size))).cell? ⟨g, o, none⟩ = (w.alloc (.map #[] 0)).cell? ⟨g, o, none⟩ := fun g hg hl o => ht.cell hl (by omega) o
  refine ⟨⟨gv, fv, ?_, h1.keep ht.size (fun g hg _ => hg) hk, h2.keep ht.size (fun g hg _ => hg) hk⟩, h3.keep (ht.block G h3.lt (map_ne h3 hb)), h4.keep (ht.block F h4.lt (map_ne h4 hb)), .inr ⟨_, rfl, (nm_made 141 w).keep (ht.block _ (by simp) (by omega))⟩, ⟨hlow.1, hlow.2.1, hlow.2.2.1, fun L hL => ?_⟩, h7, h8, h9⟩
  · rw [set_block _ _ _ _ _ _ hb]; rfl
  · cases hL; exact ⟨by omega, by omega, by omega⟩
theorem Turn.only {C L : Nat} {w w' : World} (h : Turn (fun q => q = C ∨ q = L) w w') (hL : w.heap.size ≤ L) : Turn (· = C) w w' := ⟨h.os, h.tape, h.output, h.size, fun q hq hx => h.block q hq (fun hy => by rcases hy with hy | hy; exact hx hy; omega)⟩
def FnPostK (base C G F : Nat) (k' : Ck) (w : World) (e : Ending) (w' : World) : Prop := e = .returned (.tuple #[]) ∧ Turn (· = C) w w' ∧ ∃ lv', Checks base C G F lv' k' w'
set_option maxHeartbeats 8000000 in
set_option maxRecDepth 100000 in
theorem function_ck {f : Fn} (hsh : ∀ i (hi : i < f.params.length), (f.params[i]).length ≤ 65536) (hfit : Sm.fits f.body = true) (hroom : f.params.length + Sm.grows f.body ≤ 1000000) {base C G F : Nat} {lv : Value} {k : Ck} {w : World} {pa ba : Option Addr} {pc bn bc : Nat} (h : Checks base C G F lv k w) (hp : StrsAt w (· < base) f.params (.slice pa f.params.length pc)) (hb : BodyAt w (· < base) f.body (.slice ba bn bc)) :
    Calls Tryz.prog 41 #[.pointer (some ⟨C, 0, none⟩), .agg #[.string ⟨f.name.toArray⟩, .slice pa f.params.length pc, .slice ba bn bc, .int .i64 f.line, .int .i64 f.col]] w (FnPostK base C G F (ckFunc f k) w) := by
  obtain ⟨name, params, body, line, col⟩ := f
  dsimp only at hsh hfit hroom hp hb ⊢
  have HC := Lib.hid h; have HP := Lib.hid hp; have HB := Lib.hid hb; have HSH := Lib.hid hsh; have HFIT := Lib.hid hfit; have HROOM := Lib.hid hroom
  obtain ⟨gv, fv, hlt, _, _, c0, c1, c2, c3, c4, _, _, _, hf⟩ := h.open
  have f4 := hf 4
  have hlow := h.low.1
  have HE := Lib.hid (show ckFunc ⟨name, params, body, line, col⟩ k = ckBlock body (ckParams line col params { k with lm := [] }) from rfl)
  rw [HE.out]
  clear h hp hb hsh hfit hroom hf HE
  have hmm := @run_makeMap Tryz.prog
  go_enter Tryz.func41, Tryz.ntmps41
  go_upto_region 3 with (fail)
  have hcomm : ((w.setCell ⟨C, 4, none⟩ (.map (some (w.heap.size + 1)))).alloc (.cells #[.string ⟨name.toArray⟩, .slice pa params.length pc, .slice ba bn bc, .int .i64 line, .int .i64 col] 58)).alloc (.map #[] 0) = ((w.alloc (.cells #[.string ⟨name.toArray⟩, .slice pa params.length pc, .slice ba bn bc, .int .i64 line, .int .i64 col] 58)).alloc (.map #[] 0)).setCell ⟨C, 4, none⟩ (.map (some (w.alloc (.cells #[.string ⟨name.toArray⟩, .slice pa params.length pc, .slice ba bn bc, .int .i64 line, .int .i64 col] 58)).heap.size)) := by
    rw [World.setCell_alloc_past _ _ _ _ (by simp; omega), World.setCell_alloc_past _ _ _ _ hlt]
    simp
  rw [hcomm]
  have hC1 := (HC.out.alloc (.cells #[.string ⟨name.toArray⟩, .slice pa params.length pc, .slice ba bn bc, .int .i64 line, .int .i64 col] 58)).newL
  have hT1 : Turn (· = C) w (((w.alloc (.cells #[.string ⟨name.toArray⟩, .slice pa params.length pc, .slice ba bn bc, .int .i64 line, .int .i64 col] 58)).alloc (.map #[] 0)).setCell ⟨C, 4, none⟩ (.map (some (w.alloc (.cells #[.string ⟨name.toArray⟩, .slice pa params.length pc, .slice ba bn bc, .int .i64 line, .int .i64 col] 58)).heap.size))) := (((Turn.refl (· = C) w).alloc (.cells #[.string ⟨name.toArray⟩, .slice pa params.length pc, .slice ba bn bc, .int .i64 line, .int .i64 col] 58)).alloc (.map #[] 0)).put C 4 _ (.inl rfl)
  have hB1 : (((w.alloc (.cells #[.string ⟨name.toArray⟩, .slice pa params.length pc, .slice ba bn bc, .int .i64 line, .int .i64 col] 58)).alloc (.map #[] 0)).setCell ⟨C, 4, none⟩ (.map (some (w.alloc (.cells #[.string ⟨name.toArray⟩, .slice pa params.length pc, .slice ba bn bc, .int .i64 line, .int .i64 col] 58)).heap.size))).heap[w.heap.size]? = some (.cells #[.string ⟨name.toArray⟩, .slice pa params.length pc, .slice ba bn bc, .int .i64 line, .int .i64 col] 58 (0, 0)) :=
    (Below.heap_setCell _ _ _ _ (by show w.heap.size ≠ C; omega)).trans (alloc_past _ _ _ _ (by simp) (alloc_at _ _ _ rfl))
  have hL1 : w.heap.size + 1 = (w.alloc (.cells #[.string ⟨name.toArray⟩, .slice pa params.length pc, .slice ba bn bc, .int .i64 line, .int .i64 col] 58)).heap.size := by simp
  generalize (((w.alloc (.cells #[.string ⟨name.toArray⟩, .slice pa params.length pc, .slice ba bn bc, .int .i64 line, .int .i64 col] 58)).alloc (.map #[] 0)).setCell ⟨C, 4, none⟩ (.map (some (w.alloc (.cells #[.string ⟨name.toArray⟩, .slice pa params.length pc, .slice ba bn bc, .int .i64 line, .int .i64 col] 58)).heap.size))) = W at *
  rw [← hL1] at hC1
  clear hcomm hL1 c0 c1 c2 c3 c4 f4 hmm
  generalize hLL : w.heap.size + 1 = L at *
  have hLge : w.heap.size ≤ L := by omega
  have hLne : w.heap.size ≠ L := by omega
  clear hLL
  obtain ⟨d0, d1, d2, d3, d4⟩ := own5 hB1
  have hsz : w.heap.size < W.heap.size := (Array.getElem?_eq_some_iff.1 hB1).1
  have HC1 := Lib.hid hC1; have HT1 := Lib.hid hT1; have HB1 := Lib.hid hB1
  have hty : Typed { k with lm := [] } := fun x t hx => by simp [look] at hx
  have HLM := Lib.hid (paAt_lm line col params { k with lm := [] } hty)
  have hps : params.length ≤ 4611686018427387904 ∧ (∀ j (hj : j < params.length), ∃ g o, pa = some ⟨g, o, none⟩ ∧ g < base ∧ g < w.heap.size ∧ params.length ≤ pc ∧ w.cell? ⟨g, o + j, none⟩ = some (.string ⟨(params[j]).toArray⟩)) := by
    rcases HP.out with ⟨q, a, cap, q2⟩ | ⟨_, g, o, cap, q2, hS, hg, h1, h2, h3⟩
    · exact ⟨by rw [q]; simp, fun j hj => by rw [q] at hj; simp at hj⟩
    · cases q2; exact ⟨h2, fun j hj => ⟨g, o, rfl, hS, hg, h1, h3 j params[j] (List.getElem?_eq_getElem hj)⟩⟩
  obtain ⟨hmaxp, hrow⟩ := hps
  have HROW := Lib.hid hrow
  clear hC1 hT1 hB1 hty hrow
  go_loopw [13] (fun i wr => ∃ j : Nat, j ≤ params.length ∧ i = .int .i64 j ∧ Turn (fun q => q = C ∨ q = L) W wr ∧ Checks base C G F (.map (some L)) (paAt line col params j { k with lm := [] }) wr) (fun i _ => params.length - (intOf i).toNat)
  case atStart => exact ⟨0, Nat.zero_le _, rfl, Turn.refl _ _, HC1.out⟩
  case round =>
    obtain ⟨j, hj, rfl, htr, hcr⟩ := hrel
    have HTR := Lib.hid htr; have HCR := Lib.hid hcr
    have hbr := (htr.block w.heap.size hsz (by omega)).trans HB1.out
    obtain ⟨e0, e1, e2, e3, e4⟩ := own5 hbr
    have hszr : w.heap.size < wr.heap.size := (Array.getElem?_eq_some_iff.1 hbr).1
    have HBR := Lib.hid hbr
    clear hbr
    by_cases hjl : j < params.length
    · obtain ⟨g, o, rfl, hg, hgl, hcap, hcell⟩ := HROW.out j hjl
      have r0 : wr.cell? ⟨g, o + j, none⟩ = some (.string ⟨(params[j]).toArray⟩) := (htr.cell (Nat.lt_of_lt_of_le hgl HT1.out.size) (by have := (hcr.low.2.2.2 L rfl).1; omega) _).trans ((HT1.out.cell hgl (by omega) _).trans hcell)
      have hgr : g < wr.heap.size := Nat.lt_of_lt_of_le (Nat.lt_of_lt_of_le hgl HT1.out.size) htr.size
      have HSUC := Lib.hid (paAt_succ (l := line) (c := col) hjl { k with lm := [] })
      have HLEN := Lib.hid (show (params[j]).length ≤ maxLen by have := HSH.out j hjl; unfold maxLen; omega)
      have HLK := Lib.hid (show (paAt line col params j { k with lm := [] }).lm.length < maxLen by rw [(HLM.out j hj).1]; simp; have := HROOM.out; unfold maxLen; omega)
      generalize params[j] = x at *
      generalize paAt line col params j { k with lm := [] } = kj at *
      clear htr hcr hcell
      go_wp2_with (fail)
      refine (ckknown_any HCR.out x HLEN.out).mono ?_
      rintro e w3 ⟨rfl, rfl⟩
      rcases Bool.eq_false_or_eq_true (kj.known x) with hb1 | hb1
      · have HST := Lib.hid (show stepP line col x kj = { (kj.fail 20 line col) with lm := (x, some 1) :: (kj.fail 20 line col).lm } by unfold stepP Ck.unless; rw [hb1]; rfl)
        go_wp2_with (fail)
        refine (ckfail_any HCR.out 20 line col).mono ?_
        rintro e w4 ⟨rfl, ht4, hc4⟩
        obtain ⟨w9, hrun, hnm9, hgr9⟩ := hc4.nmL.put (v := 1) wType uMapT (by rw [(same_fail kj 20 line col).2.2.2.2]; exact HLK.out) HLEN.out (by decide)
        obtain ⟨gv9, fv9, hltC, _, _, _, _, _, _, c49, _, _, _, _⟩ := hc4.open
        have HT4 := Lib.hid (HTR.out.trans (ht4.mono (fun _ q => .inl q))); have HC4 := Lib.hid hc4; have HN9 := Lib.hid hnm9; have HG9 := Lib.hid hgr9
        clear ht4 hc4 hnm9 hgr9 hb1
        go_wp2_with (fail)
        go_roundw
        case rel => exact ⟨j + 1, by omega, by go_num, HT4.out.trans (Turn.grown HG9.out (fun q hq => by cases hq; exact .inr rfl)), by rw [HSUC.out, HST.out]; exact HC4.out.putL HG9.out HN9.out⟩
        case measure => simp [intOf]; omega
      · have HST := Lib.hid (show stepP line col x kj = { kj with lm := (x, some 1) :: kj.lm } by unfold stepP Ck.unless; rw [hb1]; rfl)
        have hC3 := HCR.out
        obtain ⟨w9, hrun, hnm9, hgr9⟩ := hC3.nmL.put (v := 1) wType uMapT HLK.out HLEN.out (by decide)
        obtain ⟨gv9, fv9, hltC, _, _, _, _, _, _, c49, _, _, _, _⟩ := hC3.open
        have HN9 := Lib.hid hnm9; have HG9 := Lib.hid hgr9
        clear hC3 hnm9 hgr9
        go_wp2_with (fail)
        go_roundw
        case rel => exact ⟨j + 1, by omega, by go_num, HTR.out.trans (Turn.grown HG9.out (fun q hq => by cases hq; exact .inr rfl)), by rw [HSUC.out, HST.out]; exact HCR.out.putL HG9.out HN9.out⟩
        case measure => simp [intOf]; omega
    · obtain rfl : j = params.length := by omega
      have HALL := Lib.hid (paAt_all line col params { k with lm := [] })
      obtain ⟨q1, q2⟩ := HLM.out params.length (Nat.le_refl _)
      rw [HALL.out] at HCR q1 q2
      have HQ1 := Lib.hid q1; have HQ2 := Lib.hid q2
      have HBODY := Lib.hid ((HB.out.turn HT1.out (fun q hq => by subst hq; exact hlow)).turn htr (fun q hq => by rcases hq with rfl | rfl; exact hlow; exact (hcr.low.2.2.2 _ rfl).1))
      clear htr hcr q1 q2
      go_wp2_with (fail)
      refine (blocks_ok body HFIT.out base C G F L _ _ _ HQ2.out (by rw [HQ1.out]; simp; have := HROOM.out; omega) HCR.out HBODY.out).mono ?_
      rintro e w5 ⟨rfl, ht5, hc5⟩
      have HT5 := Lib.hid ht5; have HC5 := Lib.hid hc5
      clear ht5 hc5
      go_wp2_with (fail)
      go_end0
      exact ⟨rfl, ((HT1.out.two).trans (HTR.out.trans HT5.out)).only hLge, _, HC5.out⟩
end Go.Proofs.YtaomlahphlemdaaGreatDoor

namespace Go.Proofs.YtaomlahphlemdaaGreatDoor
open Go.ChangeShapes Go.WideShapes Go.ChangeAt Go.RowKit
set_option linter.unusedVariables false

/-- What the checker asks of a program: names that are short, not too much in a body. -/
def fnFit (f : Fn) : Bool := decide (f.name.length ≤ 65536) && f.params.all (fun x => decide (x.length ≤ 65536)) && Sm.fits f.body && decide (f.params.length + Sm.grows f.body ≤ 1000000)
def prFit (p : Pr) : Bool := p.globals.all (fun g => decide (g.name.length ≤ 65536)) && p.funcs.all fnFit
theorem fit_gl {p : Pr} (h : prFit p = true) (i : Nat) (hi : i < p.globals.length) : (p.globals[i]).name.length ≤ 65536 := by
  unfold prFit at h
  rw [Bool.and_eq_true] at h
  simpa using List.all_eq_true.1 h.1 _ (List.getElem_mem hi)
theorem fit_fn {p : Pr} (h : prFit p = true) (i : Nat) (hi : i < p.funcs.length) : (p.funcs[i]).name.length ≤ 65536 ∧ (∀ j (hj : j < (p.funcs[i]).params.length), ((p.funcs[i]).params[j]).length ≤ 65536) ∧ Sm.fits (p.funcs[i]).body = true ∧ (p.funcs[i]).params.length + Sm.grows (p.funcs[i]).body ≤ 1000000 := by
  unfold prFit at h
  rw [Bool.and_eq_true] at h
  have q := List.all_eq_true.1 h.2 _ (List.getElem_mem hi)
  unfold fnFit at q
  simp only [Bool.and_eq_true, decide_eq_true_eq] at q
  obtain ⟨⟨⟨q1, q2⟩, q3⟩, q4⟩ := q
  exact ⟨q1, fun j hj => by simpa using List.all_eq_true.1 q2 _ (List.getElem_mem hj), q3, q4⟩
theorem ckBodies_snoc : ∀ (l : List Fn) (f : Fn) (k : Ck), ckBodies (l ++ [f]) k = ckFunc f (ckBodies l k)
  | [], f, k => by simp [ckBodies]
  | a :: l, f, k => by simp only [List.cons_append, ckBodies]; exact ckBodies_snoc l f _
def boAt (l : List Fn) (i : Nat) (k : Ck) : Ck := ckBodies (l.take i) k
theorem boAt_succ {l : List Fn} {i : Nat} (h : i < l.length) (k : Ck) : boAt l (i + 1) k = ckFunc l[i] (boAt l i k) := by
  unfold boAt; rw [List.take_succ_eq_append_getElem h, ckBodies_snoc]
theorem boAt_all (l : List Fn) (k : Ck) : boAt l l.length k = ckBodies l k := by unfold boAt; rw [List.take_length]
theorem ckSizes_same : ∀ (l : List Gl) (k : Ck), SameK k (ckSizes l k)
  | [], k => ⟨rfl, rfl, rfl, rfl, rfl⟩
  | g :: r, k => by
    have h1 := same_unless k (okGl g) 40 g.line g.col
    have h2 := ckSizes_same r (k.unless (okGl g) 40 g.line g.col)
    exact ⟨h2.1.trans h1.1, h2.2.1.trans h1.2.1, h2.2.2.1.trans h1.2.2.1, h2.2.2.2.1.trans h1.2.2.2.1, h2.2.2.2.2.trans h1.2.2.2.2⟩
theorem ckGlobals_same (k : Ck) (l : List Gl) : (ckGlobals l 0 k).gs = k.gs ∧ (ckGlobals l 0 k).fs = k.fs ∧ (ckGlobals l 0 k).fm = k.fm := by
  have : ∀ i, i ≤ l.length → (gbAt l i k).gs = k.gs ∧ (gbAt l i k).fs = k.fs ∧ (gbAt l i k).fm = k.fm := by
    intro i
    induction i with
    | zero => intro _; exact ⟨rfl, rfl, rfl⟩
    | succ i ih =>
      intro hi
      obtain ⟨h1, h2, h3⟩ := ih (by omega)
      rw [gbAt_succ (by omega)]
      obtain ⟨s1, s2, s3, s4, s5⟩ := stepG_same l[i] i (gbAt l i k)
      exact ⟨s1.trans h1, s2.trans h2, s3.trans h3⟩
  have h := this l.length (Nat.le_refl _)
  rwa [gbAt_all] at h
/-- The checker at its beginning, behind six new blocks. -/
theorem checks_init {p : Pr} {w : World} {gv fv : Value} (hgl : GlsAt w (· < w.heap.size) p.globals gv) (hfn : FnsAt w (· < w.heap.size) p.funcs fv) (o1 o2 o3 : Obj) :
    ∃ W, W = (((((w.alloc o1).alloc o2).alloc o3).alloc (.map #[] 0)).alloc (.map #[] 0)).alloc (.cells (cellsK gv fv (w.heap.size + 3) (w.heap.size + 4) (.map none) (ck0 p)) 108) ∧
      Checks w.heap.size (w.heap.size + 5) (w.heap.size + 3) (w.heap.size + 4) (.map none) (ck0 p) W ∧ w.grownBy W none ∧ W.heap[w.heap.size]? = some o1 ∧ W.heap[w.heap.size + 1]? = some o2 ∧ W.heap[w.heap.size + 2]? = some o3 := by
  refine ⟨_, rfl, ?_, ?_, ?_, ?_, ?_⟩
  · have hg : w.grownBy ((((((w.alloc o1).alloc o2).alloc o3).alloc (.map #[] 0)).alloc (.map #[] 0)).alloc (.cells (cellsK gv fv (w.heap.size + 3) (w.heap.size + 4) (.map none) (ck0 p)) 108)) none := grown_trans (grown_trans (grown_trans (grown_trans (grown_trans (grown_alloc _ _) (grown_alloc _ _)) (grown_alloc _ _)) (grown_alloc _ _)) (grown_alloc _ _)) (grown_alloc _ _)
    have hk : ∀ g, g < w.heap.size → g < w.heap.size → ∀ o, ((((((w.alloc o1).alloc o2).alloc o3).alloc (.map #[] 0)).alloc (.map #[] 0)).alloc (.cells (cellsK gv fv (w.heap.size + 3) (w.heap.size + 4) (.map none) (ck0 p)) 108)).cell? ⟨g, o, none⟩ = w.cell? ⟨g, o, none⟩ := fun g _ hl o => World.cell?_of_block (hg.block g hl (by simp))
    refine ⟨⟨gv, fv, alloc_at _ _ _ (by simp), hgl.keep hg.size (fun g h _ => h) hk, hfn.keep hg.size (fun g h _ => h) hk⟩, ?_, ?_, .inl ⟨rfl, rfl⟩, ⟨by omega, by omega, by omega, fun L hL => by cases hL⟩, by omega, fun x i hx => by simp [ck0, look] at hx, fun x i hx => by simp [ck0, look] at hx⟩
    · have h3 := nm_made 3 (((w.alloc o1).alloc o2).alloc o3)
      have e3 : (((w.alloc o1).alloc o2).alloc o3).heap.size = w.heap.size + 3 := by simp
      rw [e3] at h3
      exact (h3.keep (Below.heap_alloc _ _ _ (by simp))).keep (Below.heap_alloc _ _ _ (by simp))
    · have h3 := nm_made 3 ((((w.alloc o1).alloc o2).alloc o3).alloc (.map #[] 0))
      have e3 : ((((w.alloc o1).alloc o2).alloc o3).alloc (.map #[] 0)).heap.size = w.heap.size + 4 := by simp
      rw [e3] at h3
      exact h3.keep (Below.heap_alloc _ _ _ (by simp))
  · exact grown_trans (grown_trans (grown_trans (grown_trans (grown_trans (grown_alloc _ _) (grown_alloc _ _)) (grown_alloc _ _)) (grown_alloc _ _)) (grown_alloc _ _)) (grown_alloc _ _)
  · exact alloc_past _ _ _ _ (by simp; omega) (alloc_past _ _ _ _ (by simp; omega) (alloc_past _ _ _ _ (by simp; omega) (alloc_past _ _ _ _ (by simp; omega) (alloc_past _ _ _ _ (by simp) (alloc_at _ _ _ rfl)))))
  · exact alloc_past _ _ _ _ (by simp) (alloc_past _ _ _ _ (by simp) (alloc_past _ _ _ _ (by simp) (alloc_past _ _ _ _ (by simp) (alloc_at _ _ _ (by simp)))))
  · exact alloc_past _ _ _ _ (by simp) (alloc_past _ _ _ _ (by simp) (alloc_past _ _ _ _ (by simp) (alloc_at _ _ _ (by simp))))
/-- What check.Program answers. -/
def InfoAt (w : World) (k : Ck) (i1 i2 : Value) : Prop := if k.err = 0 then ∃ G F, i1 = .map (some G) ∧ i2 = .map (some F) ∧ NM 3 w G k.gm ∧ NM 3 w F k.fm else i1 = .map none ∧ i2 = .map none
def errOf (k : Ck) : Int × Int × Int := if k.err = 0 then (0, 0, 0) else (k.err, k.line, k.col)
def CPost (k : Ck) (w : World) (e : Ending) (w' : World) : Prop :=
  ∃ i1 i2, e = .returned (.tuple #[.agg #[i1, i2], .agg #[.int .i64 (errOf k).1, .int .i64 (errOf k).2.1, .int .i64 (errOf k).2.2]]) ∧ w.grownBy w' none ∧ InfoAt w' k i1 i2
set_option maxHeartbeats 8000000 in
set_option maxRecDepth 100000 in
theorem program_ck {p : Pr} (hfit : prFit p = true) {w : World} {cs : Array Value} (hat : p.At w (· < w.heap.size) cs) :
    Calls Tryz.prog 25 #[.agg cs] w (CPost (ckProg p) w) := by
  obtain ⟨gv, fv, rfl, hgl, hfn⟩ := hat
  obtain ⟨ga, gn, gc, rfl⟩ := hgl.slice
  obtain ⟨fa, fcap, rfl, hfmax, hrow⟩ := fn_cells hfn
  have HGL := Lib.hid hgl; have HFN := Lib.hid hfn; have HFIT := Lib.hid hfit; have HROW := Lib.hid hrow
  clear hgl hfn hfit hrow
  have hmm := @run_makeMap Tryz.prog
  go_enter Tryz.func25, Tryz.ntmps25
  go_upto_region 2 with (fail)
  obtain ⟨W, hW, hC, hgr, hb0, hb1, hb2⟩ := checks_init (p := p) HGL.out HFN.out (.cells #[.slice ga gn gc, .slice fa p.funcs.length fcap] 25) (.cells #[.map none, .map none] 81) (.cells #[.int .i64 0, .int .i64 0, .int .i64 0] 67)
  change Code.wp _ _ _ _ ((((((w.alloc (.cells #[.slice ga gn gc, .slice fa p.funcs.length fcap] 25)).alloc (.cells #[.map none, .map none] 81)).alloc (.cells #[.int .i64 0, .int .i64 0, .int .i64 0] 67)).alloc (.map #[] 0)).alloc (.map #[] 0)).alloc (.cells (cellsK (.slice ga gn gc) (.slice fa p.funcs.length fcap) (w.heap.size + 3) (w.heap.size + 4) (.map none) (ck0 p)) 108))
  rw [← hW]
  have hsz0 : w.heap.size + 5 < W.heap.size := by obtain ⟨_, _, q, _⟩ := hC.open; exact q
  have HC := Lib.hid hC; have HGR := Lib.hid hgr; have HB0 := Lib.hid hb0; have HB1 := Lib.hid hb1; have HB2 := Lib.hid hb2
  clear hW hC hgr hb0 hb1 hb2 hmm
  have HK := Lib.hid (show ckProg p = ckStart (ckBodies p.funcs (ckFuncs p.funcs 0 (ckGlobals p.globals 0 (ckSizes p.globals (ck0 p))))) from rfl)
  have HS1 := Lib.hid (ckSizes_same p.globals (ck0 p))
  have HS2 := Lib.hid (ckGlobals_same (ckSizes p.globals (ck0 p)) p.globals)
  go_wp2_with (fail)
  refine (sizes_ck HC.out).mono ?_
  rintro e w2 ⟨rfl, ht2, hc2⟩
  have HT2 := Lib.hid (ht2.mono (Y := fun q => w.heap.size + 3 ≤ q) (fun q hq => by omega))
  have HC2 := Lib.hid (show Checks w.heap.size (w.heap.size + 5) (w.heap.size + 3) (w.heap.size + 4) (.map none) (ckSizes p.globals (ck0 p)) w2 from hc2)
  clear ht2 hc2
  generalize ckSizes p.globals (ck0 p) = k2 at *
  have HE1 := Lib.hid (show k2.gs = p.globals from HS1.out.1); have HE2 := Lib.hid (show k2.fs = p.funcs from HS1.out.2.1); have HE3 := Lib.hid (show k2.gm = [] from HS1.out.2.2.1); have HE4 := Lib.hid (show k2.fm = [] from HS1.out.2.2.2.1)
  go_wp2_with (fail)
  refine (globals_ck HC2.out HE3.out (fun i hi => by
    have h1 := fit_gl HFIT.out i (by rw [← HE1.out]; exact hi)
    simpa only [HE1.out] using h1)).mono ?_
  rintro e w3 ⟨rfl, ht3, hc3⟩
  rw [HE1.out] at hc3
  have HT3 := Lib.hid (HT2.out.trans (ht3.mono (Y := fun q => w.heap.size + 3 ≤ q) (fun q hq => by omega)))
  have HC3 := Lib.hid hc3
  clear ht3 hc3
  generalize ckGlobals p.globals 0 k2 = k3 at *
  have HE5 := Lib.hid (show k3.fs = p.funcs from HS2.out.2.1.trans HE2.out); have HE6 := Lib.hid (show k3.fm = [] from HS2.out.2.2.trans HE4.out)
  go_wp2_with (fail)
  refine (functions_ck HC3.out HE6.out (fun i hi => by
    have h1 := (fit_fn HFIT.out i (by rw [← HE5.out]; exact hi)).1
    simpa only [HE5.out] using h1)).mono ?_
  rintro e w4 ⟨rfl, ht4, hc4⟩
  rw [HE5.out] at hc4
  have HT4 := Lib.hid (HT3.out.trans (ht4.mono (Y := fun q => w.heap.size + 3 ≤ q) (fun q hq => by omega)))
  have HC4 := Lib.hid hc4
  have hb4 := (HT4.out.block w.heap.size (by omega) (by omega)).trans HB0.out
  obtain ⟨⟨r0, r1⟩, _, _⟩ := two hb4
  have hsz4 : w.heap.size + 5 < w4.heap.size := by have := HT4.out.size; omega
  clear ht4 hc4 hb4 HT2 HT3 HC HC2 HC3 HS1 HS2 HE1 HE2 HE3 HE4 HE5 HE6
  generalize ckFuncs p.funcs 0 k3 = k4 at *
  go_upto_region 6 with (fail)
  go_loopw [22] (fun i wr => ∃ j : Nat, j ≤ p.funcs.length ∧ i = .int .i64 j ∧ Turn (fun q => w.heap.size + 3 ≤ q) W wr ∧ ∃ lv, Checks w.heap.size (w.heap.size + 5) (w.heap.size + 3) (w.heap.size + 4) lv (boAt p.funcs j k4) wr) (fun i _ => p.funcs.length - (intOf i).toNat)
  case atStart => exact ⟨0, Nat.zero_le _, rfl, HT4.out, _, HC4.out⟩
  case round =>
    obtain ⟨j, hj, rfl, htr, lv, hcr⟩ := hrel
    have HTR := Lib.hid htr; have HCR := Lib.hid hcr
    have hszr : w.heap.size + 5 < wr.heap.size := by have := htr.size; omega
    by_cases hjl : j < p.funcs.length
    · obtain ⟨g, o, pa, pc, ba, bn, bc, rfl, hg, hgl, hcap, hps, hbs, hcl⟩ := HROW.out j hjl
      have hg' : g < w.heap.size := hg
      have hkeep : ∀ g, g < w.heap.size → g < w.heap.size → ∀ o, wr.cell? ⟨g, o, none⟩ = w.cell? ⟨g, o, none⟩ := fun q hq _ o => (htr.cell (show q < W.heap.size by omega) (by omega) o).trans (World.cell?_of_block (HGR.out.block q hq (by simp)))
      have hold : ∀ q, q < 5 → wr.cell? ⟨g, o + j * 5 + q, none⟩ = (cellsF p.funcs[j].name (.slice pa p.funcs[j].params.length pc) (.slice ba bn bc) p.funcs[j].line p.funcs[j].col)[q]? := fun q hq => (hkeep g hg' hg' _).trans (hcl q hq)
      have hgr : g < wr.heap.size := by omega
      have hzr : w.heap.size ≤ wr.heap.size := by omega
      have hpr : StrsAt wr (· < w.heap.size) p.funcs[j].params (.slice pa p.funcs[j].params.length pc) := hps.keep hzr (fun g hg _ => hg) hkeep
      have hbr : BodyAt wr (· < w.heap.size) p.funcs[j].body (.slice ba bn bc) := hbs.keep (fun g hg _ => hg) hkeep
      have HSUC := Lib.hid (boAt_succ hjl k4)
      obtain ⟨_, f2, f3, f4⟩ := fit_fn HFIT.out j hjl
      have HF2 := Lib.hid f2; have HF3 := Lib.hid f3; have HF4 := Lib.hid f4; have HPR := Lib.hid hpr; have HBR := Lib.hid hbr
      clear hps hbs hkeep hcl f2 f3 f4 hpr hbr
      generalize hx : p.funcs[j] = x at *
      generalize boAt p.funcs j k4 = kj at *
      clear hx
      obtain ⟨name, params, body, line, col⟩ := x
      have r0 : wr.cell? ⟨g, o + j * 5, none⟩ = some (.string ⟨name.toArray⟩) := hold 0 (by decide)
      have r1 : wr.cell? ⟨g, o + j * 5 + 1, none⟩ = some (.slice pa params.length pc) := hold 1 (by decide)
      have r2 : wr.cell? ⟨g, o + j * 5 + 2, none⟩ = some (.slice ba bn bc) := hold 2 (by decide)
      have r3 : wr.cell? ⟨g, o + j * 5 + 3, none⟩ = some (.int .i64 line) := hold 3 (by decide)
      have r4 : wr.cell? ⟨g, o + j * 5 + 4, none⟩ = some (.int .i64 col) := hold 4 (by decide)
      clear htr hcr hold
      go_wp2_with (fail)
      refine (function_ck (f := ⟨name, params, body, line, col⟩) HF2.out HF3.out HF4.out (HCR.out.alloc (.cells #[.string ⟨name.toArray⟩, .slice pa params.length pc, .slice ba bn bc, .int .i64 line, .int .i64 col] 58)) (HPR.out.keep (by simp) (fun g hg _ => hg) (fun g _ hg o => World.cell?_of_block (Below.heap_alloc _ _ _ hg))) (HBR.out.keep (fun g hg _ => hg) (fun g _ hg o => World.cell?_of_block (Below.heap_alloc _ _ _ hg)))).mono ?_
      rintro e w5 ⟨rfl, ht5, lv5, hc5⟩
      have HT5 := Lib.hid ((HTR.out.alloc (.cells #[.string ⟨name.toArray⟩, .slice pa params.length pc, .slice ba bn bc, .int .i64 line, .int .i64 col] 58)).trans (ht5.mono (Y := fun q => w.heap.size + 3 ≤ q) (fun q hq => by omega)))
      have HC5 := Lib.hid hc5
      clear ht5 hc5
      go_wp2_with (fail)
      go_roundw
      case rel => exact ⟨j + 1, by omega, by go_num, HT5.out, lv5, by rw [HSUC.out]; exact HC5.out⟩
      case measure => simp [intOf]; omega
    · obtain rfl : j = p.funcs.length := by omega
      have HALL := Lib.hid (boAt_all p.funcs k4)
      rw [HALL.out] at HCR
      clear htr hcr
      generalize ckBodies p.funcs k4 = k5 at *
      go_wp2_with (fail)
      refine (start_ck HCR.out).mono ?_
      rintro e w6 ⟨rfl, ht6, hc6⟩
      have ht6' := HTR.out.trans (ht6.mono (Y := fun q => w.heap.size + 3 ≤ q) (fun q hq => by omega))
      have HT6 := Lib.hid ht6'
      have HC6 := Lib.hid hc6
      obtain ⟨gv, fv, hlt6, _, _, c0, c1, c2, c3, c4, c5, c6, c7, hf⟩ := hc6.open
      obtain ⟨⟨i0, i1⟩, if0, if1⟩ := two ((ht6'.block (w.heap.size + 1) (by omega) (by omega)).trans HB1.out)
      obtain ⟨⟨u0, u1, u2⟩, uf0, uf1, uf2⟩ := three ((ht6'.block (w.heap.size + 2) (by omega) (by omega)).trans HB2.out)
      have hl1 : w.heap.size + 1 < w6.heap.size := by omega
      have hl2 : w.heap.size + 2 < w6.heap.size := by omega
      have HG6 := Lib.hid (show w.grownBy w6 none from ⟨ht6'.os.trans HGR.out.os, ht6'.tape.trans HGR.out.tape, ht6'.output.trans HGR.out.output, Nat.le_trans HGR.out.size ht6'.size, fun k hk hne => (ht6'.block k (Nat.lt_of_lt_of_le hk HGR.out.size) (by omega)).trans (HGR.out.block k hk hne)⟩)
      clear ht6 hc6 ht6' hf
      generalize ckStart k5 = k6 at *
      by_cases he : k6.err = 0
      · have q0 : (k6.err != 0) = false := by simpa using he
        have HX := Lib.hid (show CPost k6 w = fun e w' => ∃ i1 i2, e = .returned (.tuple #[.agg #[i1, i2], .agg #[.int .i64 0, .int .i64 0, .int .i64 0]]) ∧ w.grownBy w' none ∧ ∃ G F, i1 = .map (some G) ∧ i2 = .map (some F) ∧ NM 3 w' G k6.gm ∧ NM 3 w' F k6.fm by
          funext e w'
          unfold CPost InfoAt errOf
          simp only [if_pos he])
        clear he
        go_wp2_with (fail)
        refine bodyPost_ret (v := .tuple #[.agg #[.map (some (w.heap.size + 3)), .map (some (w.heap.size + 4))], .agg #[.int .i64 0, .int .i64 0, .int .i64 0]]) (by simp [results, Tryz.results25, go_sem, i0, i1, u0, u1, u2]) rfl ?_
        rw [HK.out, HX.out]
        refine ⟨_, _, rfl, ?_, _, _, rfl, rfl, ?_, ?_⟩
        · repeat (first | with_reducible (refine grown_drew ?_) | with_reducible (refine grown_put ?_ _ _ (by omega)) | with_reducible (refine grown_trans ?_ (grown_alloc _ _)) | with_reducible (exact HG6.out))
        · refine HC6.out.gm.keep ?_
          rw [Below.heap_setCell _ _ _ _ (by show w.heap.size + 3 ≠ w.heap.size + 1 + 1; omega), Below.heap_setCell _ _ _ _ (by show w.heap.size + 3 ≠ w.heap.size + 1 + 1; omega), Below.heap_setCell _ _ _ _ (by show w.heap.size + 3 ≠ w.heap.size + 1 + 1; omega), Below.heap_setCell _ _ _ _ (by show w.heap.size + 3 ≠ w.heap.size + 1; omega), Below.heap_setCell _ _ _ _ (by show w.heap.size + 3 ≠ w.heap.size + 1; omega)]
        · refine HC6.out.fm.keep ?_
          rw [Below.heap_setCell _ _ _ _ (by show w.heap.size + 4 ≠ w.heap.size + 1 + 1; omega), Below.heap_setCell _ _ _ _ (by show w.heap.size + 4 ≠ w.heap.size + 1 + 1; omega), Below.heap_setCell _ _ _ _ (by show w.heap.size + 4 ≠ w.heap.size + 1 + 1; omega), Below.heap_setCell _ _ _ _ (by show w.heap.size + 4 ≠ w.heap.size + 1; omega), Below.heap_setCell _ _ _ _ (by show w.heap.size + 4 ≠ w.heap.size + 1; omega)]
      · have q0 : (k6.err != 0) = true := by simpa using he
        have HX := Lib.hid (show CPost k6 w = fun e w' => ∃ i1 i2, e = .returned (.tuple #[.agg #[i1, i2], .agg #[.int .i64 k6.err, .int .i64 k6.line, .int .i64 k6.col]]) ∧ w.grownBy w' none ∧ (i1 = .map none ∧ i2 = .map none) by
          funext e w'
          unfold CPost InfoAt errOf
          simp only [if_neg he])
        clear he
        go_wp2_with (fail)
        go_region
        all_goals go_wp2_with (fail)
        all_goals
          refine bodyPost_ret (v := .tuple #[.agg #[.map none, .map none], .agg #[.int .i64 k6.err, .int .i64 k6.line, .int .i64 k6.col]]) (by simp [results, Tryz.results25, go_sem, i0, i1, u0, u1, u2]) rfl ?_
          rw [HK.out, HX.out]
          refine ⟨_, _, rfl, ?_, rfl, rfl⟩
          repeat (first | with_reducible (refine grown_drew ?_) | with_reducible (refine grown_put ?_ _ _ (by omega)) | with_reducible (refine grown_trans ?_ (grown_alloc _ _)) | with_reducible (exact HG6.out))
end Go.Proofs.YtaomlahphlemdaaGreatDoor
