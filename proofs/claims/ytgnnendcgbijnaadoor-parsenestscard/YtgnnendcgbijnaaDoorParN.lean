/-
  The parser: what unary makes of each token.
-/
import Derived.Test.YtgnnendcgbijnaaDoorParM
namespace Go.Proofs.YtgnnendcgbijnaaDoor
open Go.ChangeShapes Go.WideShapes Go.ChangeAt Go.RowKit
set_option linter.unusedVariables false

def pAndOf (u : Par) : Par := chainL (pRel (pSum u)) andMarks
def pExprOf (u : Par) : Par := pExpr (pAndOf u)
def noEx : Ex := .mk 0 0 0 0 [] 0 []
/-- unary, over what it calls again. -/
def unaryStep (u : Par) : Par := fun s =>
  if s.now.text = [33] then (.mk 9 s.now.line s.now.col 0 [] 0 [(pOperand u s).1], (pOperand u s).2)
  else if s.now.text = [45] then (.mk 6 s.now.line s.now.col 0 [] 2 [.mk 1 s.now.line s.now.col 0 [] 0 [], (pOperand u s).1], (pOperand u s).2)
  else if s.now.text = [40] then ((pExprOf u s.next).1, (pExprOf u s.next).2.must [41])
  else if s.now.text = [116, 114, 117, 101] then (.mk 2 s.now.line s.now.col 1 [] 0 [], s.next)
  else if s.now.text = [102, 97, 108, 115, 101] then (.mk 2 s.now.line s.now.col 0 [] 0 [], s.next)
  else if s.now.kind = 2 then (.mk 1 s.now.line s.now.col s.now.num [] 0 [], s.next)
  else if s.now.kind = 1 then pNamed (pExprOf u) s.now s.next
  else (noEx, s.refuse)
def pUnary : Nat → Par
  | 0 => fun s => (noEx, s)
  | n + 1 => unaryStep (pUnary n)

theorem now_ok {R g : Nat} {s : St} {w : World} (h : Reads R g s w) : TokOk s.now := by
  obtain ⟨t, r, e⟩ := List.exists_cons_of_ne_nil h.last.ne
  have hnow : s.now = t := by unfold St.now; rw [e]; rfl
  rw [hnow]; exact h.last.2 t (by rw [e]; simp)
theorem now_more {R g n : Nat} {s : St} {w : World} (h : Reads R g s w) (hk : s.now.kind ≠ 0) : s.next.left.length + 1 = s.left.length ∧ s.next.deep = s.deep := by
  obtain ⟨t, r, e⟩ := List.exists_cons_of_ne_nil h.last.ne
  unfold St.next
  rw [if_neg hk]
  simp [e]

/-- What unary has laid at its beginning: the answer's place, the token. -/
structure Laid2 (R r tb : Nat) (ct : Array Value) (w W : World) : Prop where
  went : Went R w W
  res : W.heap[r]? = some (.cells zero7 51 (0, 0))
  tok : W.heap[tb]? = some (.cells ct 68 (0, 0))
theorem Laid2.went' {R r tb : Nat} {ct : Array Value} {w W W' : World} (h : Laid2 R r tb ct w W) (hw : Went R W W') (hr : R < r) (hb : R < tb) : Laid2 R r tb ct w W' :=
  ⟨h.went.trans hw, hw.keep h.res (by omega), hw.keep h.tok (by omega)⟩
theorem laid2_of {R : Nat} {w w1 : World} {t : Tok} (hg : (w.alloc (.cells zero7 51)).grownBy w1 none) (hR : R < w.heap.size) : Laid2 R w.heap.size w1.heap.size (tokCells t) w (w1.alloc (.cells (tokCells t) 68)) := by
  have hz := hg.size
  simp at hz
  exact ⟨went_none (grown_trans (grown_trans (grown_alloc _ _) hg) (grown_alloc _ _)), alloc_past _ _ _ _ (by omega) ((went_none (R := R) hg).keep (alloc_at _ _ _ rfl) (by omega)), alloc_at _ _ _ rfl⟩
/-- What an operand leaves, the token and the answer's place still there. -/
def OperPost (R g r tb : Nat) (ct : Array Value) (p : Ex × St) (w W : World) (e : Ending) (w' : World) : Prop :=
  ∃ k l c n m o x y z, e = .returned (.agg (cells7 k l c n m o (.slice x y z))) ∧ p.1.At w' (W.heap.size ≤ ·) (cells7 k l c n m o (.slice x y z)) ∧ Laid2 R r tb ct w w' ∧ Reads R g p.2 w' ∧ W.heap.size ≤ w'.heap.size
theorem oper_in {R g n r tb : Nat} {u : Par} {ct : Array Value} {s : St} {w W : World} (hp : ParOk R g n 92 u) (hf : Fine n u) (hl : s.left.length ≤ n + 1) (hk : s.now.kind ≠ 0) (hd : s.deep + 2 * s.left.length ≤ 300000) (h : Reads R g s W) (hL : Laid2 R r tb ct w W) (hr : R < r) (htb : R < tb) :
    ∀ wx, W.grownBy wx none → Calls Tryd.prog 93 #[.pointer (some ⟨R, 0, none⟩)] wx (OperPost R g r tb ct (pOperand u s) w W) := by
  intro wx hg
  refine (operand_any hp hf s wx hl hk hd (h.more hg)).mono ?_
  rintro e w' ⟨cs, rfl, hat, hw, hr'⟩
  obtain ⟨k, l, c, n, m, o, x, y, z, rfl⟩ := hat.cells
  have hz := hg.size
  exact ⟨k, l, c, n, m, o, x, y, z, rfl, hat.weak (fun q hq => by have : wx.heap.size ≤ q := hq; omega), (hL.went' (went_none hg) hr htb).went' hw hr htb, hr', by have := hw.size; omega⟩

theorem kid_end {R g r n0 : Nat} {kind line col num : Int} {name : List UInt8} {op : Int} {e : Ex} {s : St} {cs : Array Value} {w w9 wx : World} (hs : Sets r w9 wx) (hat : e.At w9 (n0 ≤ ·) cs) (hr : r < n0) (hwr : w.heap.size ≤ r) (hR : R < r) (hw : Went R w w9) (hrd : Reads R g s w9) (hn : InI64 num) (ho : InI64 op) (h4 : kind ≠ 4 := by decide) :
    ExPost R g (.mk kind line col num name op [e], s) w (.returned (.agg (cells7 kind line col num name op (.slice (some ⟨w9.heap.size, 0, none⟩) 1 1)))) (wx.alloc (.cells cs 51)) := by
  have hz := hw.size
  refine ⟨_, rfl, at_one (S := (w.heap.size ≤ ·)) hz (alloc_at _ _ _ hs.size.symm) ?_ hn ho 1 (Nat.le_refl _) (.inl h4), went_alloc (hw.sets hwr hs) _, (hrd.sets hR hs).alloc _⟩
  refine Ex.At.keep (fun q hq hlt => by have : n0 ≤ q := hq; omega) (fun q hq hlt o => ?_) _ _ hat
  have h9 : n0 ≤ q := hq
  rw [World.cell?_of_block (Below.heap_alloc _ _ _ (by rw [hs.size]; exact hlt)), World.cell?_of_block (hs.keep q (by omega))]

set_option maxHeartbeats 2000000 in
set_option maxRecDepth 100000 in
theorem unary_not {R g n : Nat} {u : Par} (hp : ParOk R g n 92 u) (hf : Fine n u) (s : St) (w : World) (hl : s.left.length ≤ n + 1) (hd : s.deep + 2 * s.left.length ≤ 300000) (h : Reads R g s w) (kd nm ln cl : Int) (hnow : s.now = ⟨kd, [33], nm, ln, cl⟩) :
    Calls Tryd.prog 92 #[.pointer (some ⟨R, 0, none⟩)] w (ExPost R g (unaryStep u s) w) := by
  have HV := Lib.hid (show unaryStep u s = (.mk 9 ln cl 0 [] 0 [(pOperand u s).1], (pOperand u s).2) by unfold unaryStep; rw [hnow]; rfl)
  have hk : s.now.kind ≠ 0 := fun hk => by have := (now_ok h).1 hk; rw [hnow] at this; cases this
  have HP := Lib.hid hp; have HF := Lib.hid hf; have HR := Lib.hid h; have HNOW := Lib.hid hnow; have HK := Lib.hid hk
  have hRw := h.size
  clear hp hf h hnow hk
  go_enter Tryd.func92, Tryd.ntmps92
  go_wp2_with (fail)
  refine (now_any R g s _ (HR.out.alloc _)).mono ?_
  rintro e w1 ⟨rfl, hg1⟩
  rw [HNOW.out]
  have hL0 := laid2_of (t := ⟨kd, [33], nm, ln, cl⟩) (R := R) hg1 hRw
  have hz1 := hg1.size
  simp at hz1
  have HRW := Lib.hid (((HR.out.alloc _).more hg1).alloc (.cells (tokCells ⟨kd, [33], nm, ln, cl⟩) 68))
  have HL0 := Lib.hid hL0
  clear hg1 hL0
  unfold tokAgg
  go_wp2_with (fail)
  generalize hW : w1.alloc (.cells #[.int .i64 kd, .string ⟨#[33]⟩, .int .i64 nm, .int .i64 ln, .int .i64 cl] 68) = W
  have hL : Laid2 R w.heap.size w1.heap.size (tokCells ⟨kd, [33], nm, ln, cl⟩) w W := by rw [← hW]; exact HL0.out
  have hrW : Reads R g s W := by rw [← hW]; exact HRW.out
  have hsW : W.heap.size = w1.heap.size + 1 := by rw [← hW]; simp
  clear hW HL0 HRW
  obtain ⟨y0, y1, y2, y3, y4⟩ := five hL.tok
  obtain ⟨⟨z0, z1, z2, z3, z4, z5, z6⟩, f0, f1, f2, f3, f4, f5, f6⟩ := seven hL.res
  have HOP := Lib.hid (oper_in HP.out HF.out hl HK.out hd hrW hL hRw (by omega))
  clear hL hrW
  go_region_with ((go_at_call 93; refine (HOP.out _ (by repeat (first | exact grown_refl _ | apply grown_drew))).mono ?_; rintro e' w9 ⟨k5, l5, c5, n5, m5, o5, a5, b5, d5, rfl, hat5, hL5, hr5, hz5⟩; obtain ⟨y0, y1, y2, y3, y4⟩ := five hL5.tok; obtain ⟨⟨z0, z1, z2, z3, z4, z5, z6⟩, f0, f1, f2, f3, f4, f5, f6⟩ := seven hL5.res; have hlt9 : w.heap.size < w9.heap.size := (by omega); have hlt10 : w1.heap.size < w9.heap.size := (by omega); have HAT5 := Lib.hid hat5; have HL5 := Lib.hid hL5; have HR5 := Lib.hid hr5; clear hat5 hL5 hr5; unfold cells7))
  all_goals go_wp2_with (fail)
  all_goals
    refine bodyPost_ret (v := .agg (cells7 9 ln cl 0 [] 0 (.slice (some ⟨w9.heap.size, 0, none⟩) 1 1))) (by simp [results, Tryd.results92, go_sem, cells7, z0, z1, z2, z3, z4, z5, z6, hlt9]) rfl ?_
    rw [HV.out]
    refine kid_end (r := w.heap.size) (n0 := W.heap.size) (cs := cells7 k5 l5 c5 n5 m5 o5 (.slice a5 b5 d5)) ?_ HAT5.out (by omega) (Nat.le_refl _) hRw HL5.out.went HR5.out in0 in0
    repeat (first | with_reducible (refine Sets.set ?_ _ _) | with_reducible (refine Sets.drew ?_) | with_reducible (exact Sets.refl _ _))
end Go.Proofs.YtgnnendcgbijnaaDoor
