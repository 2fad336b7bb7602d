/-
  The checker: sizes.
-/
import Derived.Test.YtffgioifjdpajaaGreatDoorChkN
namespace Go.Proofs.YtffgioifjdpajaaGreatDoor
open Go.ChangeShapes Go.WideShapes Go.ChangeAt Go.RowKit
set_option linter.unusedVariables false

def okGl (g : Gl) : Bool := decide (0 ≤ g.size) && decide (g.size ≤ 4096) && decide (0 ≤ g.hold) && decide (g.hold ≤ 2)
theorem ckSizes_snoc : ∀ (l : List Gl) (g : Gl) (k : Ck), ckSizes (l ++ [g]) k = (ckSizes l k).unless (okGl g) 40 g.line g.col
  | [], g, k => by simp [ckSizes, okGl]
  | a :: l, g, k => by simp only [List.cons_append, ckSizes]; exact ckSizes_snoc l g _
def szAt (l : List Gl) (i : Nat) (k : Ck) : Ck := ckSizes (l.take i) k
theorem szAt_succ {l : List Gl} {i : Nat} (h : i < l.length) (k : Ck) : szAt l (i + 1) k = (szAt l i k).unless (okGl l[i]) 40 l[i].line l[i].col := by
  unfold szAt; rw [List.take_succ_eq_append_getElem h, ckSizes_snoc]
theorem szAt_all (l : List Gl) (k : Ck) : szAt l l.length k = ckSizes l k := by unfold szAt; rw [List.take_length]
theorem gl_cells {w : World} {S : Nat → Prop} {gs : List Gl} {gv : Value} (h : GlsAt w S gs gv) : ∃ a cap, gv = .slice a gs.length cap ∧ gs.length ≤ 4611686018427387904 ∧ (∀ j (hj : j < gs.length), ∃ g o, a = some ⟨g, o, none⟩ ∧ S g ∧ g < w.heap.size ∧ gs.length ≤ cap ∧ ∀ i, i < 5 → w.cell? ⟨g, o + j * 5 + i, none⟩ = (cellsG gs[j])[i]?) := by
  rcases h with ⟨rfl, a, cap, rfl⟩ | ⟨_, g, o, cap, rfl, hS, hlt, h1, h2, h3⟩
  · exact ⟨a, cap, rfl, by simp, fun j hj => by simp at hj⟩
  · refine ⟨_, cap, rfl, h2, fun j hj => ⟨g, o, rfl, hS, hlt, h1, fun i hi => ?_⟩⟩
    rw [show o + j * 5 + i = o + (5 * j + i) by omega]
    exact h3 j gs[j] (List.getElem?_eq_getElem hj) i hi
set_option maxHeartbeats 4000000 in
set_option maxRecDepth 100000 in
theorem sizes_ck {base C G F : Nat} {lv : Value} {k : Ck} {w : World} (h : Checks base C G F lv k w) : Calls Tryz.prog 19 #[.pointer (some ⟨C, 0, none⟩)] w (CkPost base C G F lv (ckSizes k.gs k) (.tuple #[]) w) := by
  obtain ⟨gv, fv, hlt, hgl, hfn, c0, c1, c2, c3, c4, _, _, _, _⟩ := h.open
  obtain ⟨a, cap, rfl, hmax, hrow⟩ := gl_cells hgl
  have HC := Lib.hid h; have HROW := Lib.hid hrow
  have hlow := h.low.1
  clear h hgl hfn hrow
  generalize k.gs = gs at *
  go_enter Tryz.func19, Tryz.ntmps19
  go_wp2_with (fail)
  go_loopw [10] (fun i wr => ∃ j : Nat, j ≤ gs.length ∧ i = .int .i64 j ∧ Turn (· = C) w wr ∧ Checks base C G F lv (szAt gs j k) wr) (fun i _ => gs.length - (intOf i).toNat)
  case atStart => exact ⟨0, Nat.zero_le _, rfl, Turn.refl _ _, HC.out⟩
  case round =>
    obtain ⟨j, hj, rfl, htr, hcr⟩ := hrel
    have HTR := Lib.hid htr; have HCR := Lib.hid hcr
    have hltr : C < wr.heap.size := by obtain ⟨_, _, q, _⟩ := hcr.open; exact q
    by_cases hjl : j < gs.length
    · obtain ⟨g, o, rfl, hg, hgl, hcap, hcl⟩ := HROW.out j hjl
      have hg' : g < base := hg
      have hold : ∀ q, q < 5 → wr.cell? ⟨g, o + j * 5 + q, none⟩ = (cellsG gs[j])[q]? := fun q hq => (htr.cell hgl (by omega) _).trans (hcl q hq)
      have hgr : g < wr.heap.size := Nat.lt_of_lt_of_le hgl htr.size
      have HSUC := Lib.hid (szAt_succ hjl k)
      generalize gs[j] = x at *
      obtain ⟨name, hold_, size, line, col⟩ := x
      have r0 : wr.cell? ⟨g, o + j * 5, none⟩ = some (.string ⟨name.toArray⟩) := hold 0 (by decide)
      have r1 : wr.cell? ⟨g, o + j * 5 + 1, none⟩ = some (.int .i64 hold_) := hold 1 (by decide)
      have r2 : wr.cell? ⟨g, o + j * 5 + 2, none⟩ = some (.int .i64 size) := hold 2 (by decide)
      have r3 : wr.cell? ⟨g, o + j * 5 + 3, none⟩ = some (.int .i64 line) := hold 3 (by decide)
      have r4 : wr.cell? ⟨g, o + j * 5 + 4, none⟩ = some (.int .i64 col) := hold 4 (by decide)
      clear htr hcr hold hcl
      by_cases g1 : size < 0
      · have b1 : decide (size < 0) = true := by simpa using g1
        have HOK := Lib.hid (show (szAt gs j k).unless (okGl ⟨name, hold_, size, line, col⟩) 40 line col = (szAt gs j k).fail 40 line col by
          have : okGl ⟨name, hold_, size, line, col⟩ = false := by unfold okGl; simp; omega
          rw [this]; rfl)
        clear g1
        go_wp2_with (fail)
        refine (ckfail_any (HCR.out.alloc _) 40 line col).mono ?_
        rintro e w2 ⟨rfl, ht2, hc2⟩
        have HT2 := Lib.hid ht2; have HC2 := Lib.hid hc2
        clear ht2 hc2
        go_wp2_with (fail)
        go_roundw
        case rel => exact ⟨j + 1, by omega, by go_num, (HTR.out.alloc _).trans HT2.out, by rw [HSUC.out]; first | (rw [HOK.out]; exact HC2.out) | (dsimp only; rw [HOK.out]; exact HC2.out)⟩
        case measure => simp [intOf]; omega
      have b1 : decide (size < 0) = false := by simpa using g1
      by_cases g2 : 4096 < size
      · have b2 : decide (4096 < size) = true := by simpa using g2
        have HOK := Lib.hid (show (szAt gs j k).unless (okGl ⟨name, hold_, size, line, col⟩) 40 line col = (szAt gs j k).fail 40 line col by
          have : okGl ⟨name, hold_, size, line, col⟩ = false := by unfold okGl; simp; omega
          rw [this]; rfl)
        clear g1 g2
        go_wp2_with (fail)
        refine (ckfail_any (HCR.out.alloc _) 40 line col).mono ?_
        rintro e w2 ⟨rfl, ht2, hc2⟩
        have HT2 := Lib.hid ht2; have HC2 := Lib.hid hc2
        clear ht2 hc2
        go_wp2_with (fail)
        go_roundw
        case rel => exact ⟨j + 1, by omega, by go_num, (HTR.out.alloc _).trans HT2.out, by rw [HSUC.out]; first | (rw [HOK.out]; exact HC2.out) | (dsimp only; rw [HOK.out]; exact HC2.out)⟩
        case measure => simp [intOf]; omega
      have b2 : decide (4096 < size) = false := by simpa using g2
      by_cases g3 : hold_ < 0
      · have b3 : decide (hold_ < 0) = true := by simpa using g3
        have HOK := Lib.hid (show (szAt gs j k).unless (okGl ⟨name, hold_, size, line, col⟩) 40 line col = (szAt gs j k).fail 40 line col by
          have : okGl ⟨name, hold_, size, line, col⟩ = false := by unfold okGl; simp; omega
          rw [this]; rfl)
        clear g1 g2 g3
        go_wp2_with (fail)
        refine (ckfail_any (HCR.out.alloc _) 40 line col).mono ?_
        rintro e w2 ⟨rfl, ht2, hc2⟩
        have HT2 := Lib.hid ht2; have HC2 := Lib.hid hc2
        clear ht2 hc2
        go_wp2_with (fail)
        go_roundw
        case rel => exact ⟨j + 1, by omega, by go_num, (HTR.out.alloc _).trans HT2.out, by rw [HSUC.out]; first | (rw [HOK.out]; exact HC2.out) | (dsimp only; rw [HOK.out]; exact HC2.out)⟩
        case measure => simp [intOf]; omega
      have b3 : decide (hold_ < 0) = false := by simpa using g3
      by_cases g4 : 2 < hold_
      · have b4 : decide (2 < hold_) = true := by simpa using g4
        have HOK := Lib.hid (show (szAt gs j k).unless (okGl ⟨name, hold_, size, line, col⟩) 40 line col = (szAt gs j k).fail 40 line col by
          have : okGl ⟨name, hold_, size, line, col⟩ = false := by unfold okGl; simp; omega
          rw [this]; rfl)
        clear g1 g2 g3 g4
        go_wp2_with (fail)
        refine (ckfail_any (HCR.out.alloc _) 40 line col).mono ?_
        rintro e w2 ⟨rfl, ht2, hc2⟩
        have HT2 := Lib.hid ht2; have HC2 := Lib.hid hc2
        clear ht2 hc2
        go_wp2_with (fail)
        go_roundw
        case rel => exact ⟨j + 1, by omega, by go_num, (HTR.out.alloc _).trans HT2.out, by rw [HSUC.out]; first | (rw [HOK.out]; exact HC2.out) | (dsimp only; rw [HOK.out]; exact HC2.out)⟩
        case measure => simp [intOf]; omega
      have b4 : decide (2 < hold_) = false := by simpa using g4
      have HOK := Lib.hid (show (szAt gs j k).unless (okGl ⟨name, hold_, size, line, col⟩) 40 line col = szAt gs j k by
        have : okGl ⟨name, hold_, size, line, col⟩ = true := by unfold okGl; simp; omega
        rw [this]; rfl)
      clear g1 g2 g3 g4
      go_wp2_with (fail)
      go_roundw
      case rel => exact ⟨j + 1, by omega, by go_num, HTR.out.alloc _, by rw [HSUC.out]; first | exact HOK.out ▸ (HCR.out.alloc _) | (rw [HOK.out]; exact HCR.out.alloc _) | (dsimp only; rw [HOK.out]; exact HCR.out.alloc _)⟩
      case measure => simp [intOf]; omega
    · obtain rfl : j = gs.length := by omega
      have HALL := Lib.hid (szAt_all gs k)
      rw [HALL.out] at HCR
      clear htr hcr
      go_wp2_with (fail)
      go_end0
      exact ⟨rfl, HTR.out, HCR.out⟩
end Go.Proofs.YtffgioifjdpajaaGreatDoor
