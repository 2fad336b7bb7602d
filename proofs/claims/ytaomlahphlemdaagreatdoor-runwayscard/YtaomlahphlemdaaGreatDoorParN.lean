/-
  The parser: what stands behind a sign.
  The parser: arguments.
  The parser: what a name begins.
  The parser: what unary makes of each token.
-/
import Derived.Test.YtaomlahphlemdaaGreatDoorParJ
import Derived.Deep.AppendLies
namespace Go.Proofs.YtaomlahphlemdaaGreatDoor
open Go.ChangeShapes Go.WideShapes Go.ChangeAt Go.RowKit
set_option linter.unusedVariables false

def pOperand (u : Par) : Par := fun s => ((u s.enter.next).1, (u s.enter.next).2.leave)
theorem operand_len {R g n : Nat} {s : St} {w : World} (h : Reads R g s w) (hk : s.now.kind ≠ 0) (hl : s.left.length ≤ n + 1) : s.enter.next.left.length ≤ n ∧ s.enter.next.left.length + 1 ≤ s.left.length ∧ s.enter.next.deep = s.deep + 1 := by
  obtain ⟨t, r, e⟩ := List.exists_cons_of_ne_nil h.last.ne
  have hnow : s.now = t := by unfold St.now; rw [e]; rfl
  have hr : r ≠ [] := LastEnd.two (t := t) (r := r) (by rw [← e]; exact h.last) (by rw [← hnow]; exact hk)
  have hr1 : 1 ≤ r.length := List.length_pos_iff.mpr hr
  have hlen : s.left.length = r.length + 1 := by rw [e]; rfl
  have hef := s.enter_fine
  have hnf := s.enter.next_fine
  refine (fun hq => ⟨by omega, hq, by rw [hnf.1, hef.1]⟩) ?_
  by_cases hf : 200 ≤ s.deep ∧ s.err = 0
  · have : s.enter.left.length ≤ 1 := by unfold St.enter St.fail; simp only [if_pos hf.1, if_pos hf.2, List.length_drop]; omega
    omega
  · have hsame : s.enter.left = s.left := by
      unfold St.enter St.fail
      by_cases h1 : 200 ≤ s.deep
      · simp only [if_pos h1, if_neg (show ¬ s.err = 0 from fun h2 => hf ⟨h1, h2⟩)]
      · simp only [if_neg h1]
    have hnow2 : s.enter.now = s.now := by unfold St.now; rw [hsame]
    unfold St.next
    rw [hnow2, if_neg hk]
    simp [hsame, e]

set_option maxHeartbeats 1000000 in
set_option maxRecDepth 100000 in
theorem operand_any {R g n : Nat} {u : Par} (hp : ParOk R g n 147 u) (hf : Fine n u) (s : St) (w : World) (hl : s.left.length ≤ n + 1) (hk : s.now.kind ≠ 0) (hd : s.deep + 2 * s.left.length ≤ 300000) (h : Reads R g s w) :
    Calls Tryz.prog 148 #[.pointer (some ⟨R, 0, none⟩)] w (ExPost R g (pOperand u s) w) := by
  have HLN := Lib.hid (operand_len h hk hl)
  have HP := Lib.hid hp; have HF := Lib.hid hf; have HR := Lib.hid h
  have hRw := h.size
  have hd0 := h.deep
  clear hp hf h hk
  go_enter_defers Tryz.func148, Tryz.ntmps148
  go_wp2_with (fail)
  refine (enter_any R g s _ (HR.out.alloc _) (by omega)).mono ?_
  rintro e w1 ⟨rfl, hw1, hr1⟩
  have hz1 := hw1.size
  simp at hz1
  have hres1 := hw1.keep (alloc_at w _ _ rfl) (by omega)
  have HW1 := Lib.hid ((went_none (R := R) (grown_alloc w _)).trans hw1); have HR1 := Lib.hid hr1; have HRES1 := Lib.hid hres1
  clear hw1 hr1 hres1
  go_wp2_with (fail)
  refine (take_any R g s.enter _ HR1.out).mono ?_
  rintro e wt ⟨rfl, hwt, hrt⟩
  have hzt := hwt.size
  have HWT := Lib.hid hwt; have HRT := Lib.hid hrt
  clear hwt hrt
  unfold tokAgg
  go_wp2_with (fail)
  refine (HP.out s.enter.next _ (by have := HLN.out; omega) (by have := HLN.out; omega) HRT.out).mono ?_
  rintro e w2 ⟨cs, rfl, hat, hw2, hr2⟩
  obtain ⟨k3, l3, c3, n3, m3, o3, a3, b3, d3, rfl⟩ := hat.cells
  have hz2 := hw2.size
  have hrs := hw2.keep (HWT.out.keep HRES1.out (by omega)) (by omega)
  obtain ⟨⟨z0, z1, z2, z3, z4, z5, z6⟩, f0, f1, f2, f3, f4, f5, f6⟩ := seven hrs
  have HAT := Lib.hid hat; have HW2 := Lib.hid hw2; have HR2 := Lib.hid hr2; have HRS := Lib.hid hrs
  clear hat hw2 hr2 hrs
  unfold cells7
  go_wp2_with (fail)
  generalize hD : ((((((w2.setCell ⟨w.heap.size, 0, none⟩ (.int .i64 k3)).setCell ⟨w.heap.size, 1, none⟩ (.int .i64 l3)).setCell ⟨w.heap.size, 2, none⟩ (.int .i64 c3)).setCell ⟨w.heap.size, 3, none⟩ (.int .i64 n3)).setCell ⟨w.heap.size, 4, none⟩ (.string ⟨m3.toArray⟩)).setCell ⟨w.heap.size, 5, none⟩ (.int .i64 o3)).setCell ⟨w.heap.size, 6, none⟩ (.slice a3 b3 d3) = D
  have hset : Sets w.heap.size w2 D := by rw [← hD]; exact Sets.set (Sets.set (Sets.set (Sets.set (Sets.set (Sets.set (Sets.set (Sets.refl _ _) _ _) _ _) _ _) _ _) _ _) _ _) _ _
  have hblk : D.heap[w.heap.size]? = some (.cells (cells7 k3 l3 c3 n3 m3 o3 (.slice a3 b3 d3)) 47 (0, 0)) := by rw [← hD]; exact set7 _ _ _ _ _ _ _ HRS.out
  clear hD
  have hpost := ex_end (r := w.heap.size) (w := w) hset HAT.out (fun q hq => by have : wt.heap.size ≤ q := hq; omega) (Nat.le_refl _) hRw ((HW1.out.trans HWT.out).trans HW2.out) HR2.out
  obtain ⟨_, e1, hatD, hwD, hrD⟩ := hpost
  cases e1
  have hfc := HF.out s.enter.next (by have := HLN.out; omega)
  have hdp : (u s.enter.next).2.deep = s.deep + 1 := by rw [hfc.1, HLN.out.2.2]
  refine leaves_cons (f := 103) (args := #[.pointer (some ⟨R, 0, none⟩)]) (by simp) (by simp [go_sem]) ?_
  refine (leave_d R g _ .returning _ hrD (by omega)).mono ?_
  rintro e u' w'' ⟨rfl, rfl, rfl⟩
  have hfin : (D.setCell ⟨R, 1, none⟩ (.int .i64 ((u s.enter.next).2.deep - 1))).heap[w.heap.size]? = some (.cells (cells7 k3 l3 c3 n3 m3 o3 (.slice a3 b3 d3)) 47 (0, 0)) := (Below.heap_setCell _ _ _ _ (by show w.heap.size ≠ R; omega)).trans hblk
  obtain ⟨y0, y1, y2, y3, y4, y5, y6⟩ := (own7 hfin)
  refine ⟨.agg (cells7 k3 l3 c3 n3 m3 o3 (.slice a3 b3 d3)), (by simp [results, Tryz.results148, go_sem, cells7, y0, y1, y2, y3, y4, y5, y6]), ?_⟩
  refine ⟨_, rfl, ?_, hwD.trans (went_set _ _ _ _), hrD.put1 _ (by omega)⟩
  exact Ex.At.keep (fun q h _ => h) (fun q h _ o => World.cell?_of_block (Below.heap_setCell _ _ _ _ (by have : w.heap.size ≤ q := h; show q ≠ R; omega))) _ _ hatD
end Go.Proofs.YtaomlahphlemdaaGreatDoor

namespace Go.Proofs.YtaomlahphlemdaaGreatDoor
open Go.ChangeShapes Go.WideShapes Go.ChangeAt Go.RowKit
set_option linter.unusedVariables false

/-- Expressions, each with its seven cells. -/
def AtAll (w : World) (S : Nat → Prop) : List Ex → List (Array Value) → Prop
  | [], [] => True
  | e :: r, c :: cs => e.At w S c ∧ AtAll w S r cs
  | _, _ => False
theorem AtAll.keep {w w' : World} {S S' : Nat → Prop} (hS : ∀ g, S g → g < w.heap.size → S' g) (hk : ∀ g, S g → g < w.heap.size → ∀ o, w'.cell? ⟨g, o, none⟩ = w.cell? ⟨g, o, none⟩) : ∀ {es : List Ex} {cs : List (Array Value)}, AtAll w S es cs → AtAll w' S' es cs
  | [], [], _ => trivial
  | e :: r, c :: cs, h => ⟨Ex.At.keep hS hk e c h.1, AtAll.keep hS hk h.2⟩
theorem AtAll.snoc {w : World} {S : Nat → Prop} {e : Ex} {c : Array Value} (he : e.At w S c) : ∀ {es : List Ex} {cs : List (Array Value)}, AtAll w S es cs → AtAll w S (es ++ [e]) (cs ++ [c])
  | [], [], _ => ⟨he, trivial⟩
  | e :: r, c :: cs, h => ⟨h.1, AtAll.snoc he h.2⟩
theorem AtAll.length {w : World} {S : Nat → Prop} : ∀ {es : List Ex} {cs : List (Array Value)}, AtAll w S es cs → (cs.flatMap Array.toList).length = es.length * 7
  | [], [], _ => rfl
  | e :: r, c :: cs, h => by
    obtain ⟨k, l, c', n, m, o, x, y, z, rfl⟩ := h.1.cells
    rw [List.flatMap_cons, List.length_append, AtAll.length h.2, List.length_cons]
    show 7 + r.length * 7 = _
    omega
theorem AtAll.row {w : World} {S : Nat → Prop} {g : Nat} : ∀ {es : List Ex} {cs : List (Array Value)} (o : Nat), AtAll w S es cs → (∀ j u, (cs.flatMap Array.toList)[j]? = some u → w.cell? ⟨g, o + j, none⟩ = some u) → Ex.Row w S g o es
  | [], [], o, _, _ => by unfold Ex.Row; trivial
  | e :: r, c :: cs, o, h, hc => by
    unfold Ex.Row
    obtain ⟨k, l, c', n, m, op, x, y, z, rfl⟩ := h.1.cells
    have hl : (cells7 k l c' n m op (.slice x y z)).toList.length = 7 := rfl
    refine ⟨⟨_, h.1, fun j hj => ?_⟩, AtAll.row (o + 7) h.2 fun j u hu => ?_⟩
    · have hs : (cells7 k l c' n m op (.slice x y z))[j]? = (cells7 k l c' n m op (.slice x y z)).toList[j]? := by simp
      have hlt : j < (cells7 k l c' n m op (.slice x y z)).toList.length := by omega
      rw [hs, List.getElem?_eq_getElem hlt]
      refine hc j _ ?_
      rw [List.flatMap_cons, List.getElem?_append_left hlt, List.getElem?_eq_getElem hlt]
    · have := hc (7 + j) u (by rw [List.flatMap_cons, List.getElem?_append_right (by omega), hl, Nat.add_sub_cancel_left]; exact hu)
      rwa [← Nat.add_assoc] at this

/-- Kids, as a slice of expressions. -/
def KidsAt (w : World) (S : Nat → Prop) (es : List Ex) (v : Value) : Prop :=
  (es = [] ∧ ∃ a cap, v = .slice a 0 cap) ∨ (es ≠ [] ∧ ∃ g o cap, v = .slice (some ⟨g, o, none⟩) es.length cap ∧ S g ∧ es.length ≤ cap ∧ es.length ≤ 4611686018427387904 ∧ Ex.Row w S g o es)
theorem at_kids {w : World} {S : Nat → Prop} {es : List Ex} {v : Value} (kind line col num : Int) (name : List UInt8) (op : Int) (hn : InI64 num) (ho : InI64 op) (h : KidsAt w S es v) (h4 : kind ≠ 4 := by decide) : (Ex.mk kind line col num name op es).At w S (cells7 kind line col num name op v) := by
  unfold Ex.At; exact ⟨hn, ho, v, rfl, .inl h4, h⟩
theorem KidsAt.keep {w w' : World} {S S' : Nat → Prop} (hS : ∀ g, S g → g < w.heap.size → S' g) (hk : ∀ g, S g → g < w.heap.size → ∀ o, w'.cell? ⟨g, o, none⟩ = w.cell? ⟨g, o, none⟩) {es : List Ex} {v : Value} (h : KidsAt w S es v) : KidsAt w' S' es v := by
  rcases h with h | ⟨hne, g, o, cap, rfl, hg, h1, h2, h3⟩
  · exact .inl h
  · have hlt : g < w.heap.size := by
      obtain ⟨e, r, rfl⟩ := List.exists_cons_of_ne_nil hne
      exact h3.lt
    exact .inr ⟨hne, g, o, cap, rfl, hS g hg hlt, h1, h2, Ex.Row.keep hS hk g hg hlt o es h3⟩

def argsLoop (ex : Par) : Nat → List Ex → St → List Ex × St
  | 0, es, s => (es, s)
  | k + 1, es, s => if s.sees [[44]] then argsLoop ex k (es ++ [(ex s.next).1]) (ex s.next).2 else (es, s)
def pArgs (ex : Par) (s : St) : List Ex × St := argsLoop ex (ex s).2.left.length [(ex s).1] (ex s).2
theorem argsLoop_fine {n : Nat} {part : Par} (hf : Fine n part) : ∀ (k : Nat) (es : List Ex) (s : St), s.left.length ≤ n → (argsLoop part k es s).2.deep = s.deep ∧ (argsLoop part k es s).2.left.length ≤ s.left.length
  | 0, e, s, h => ⟨rfl, Nat.le_refl _⟩
  | k + 1, e, s, h => by
    rw [argsLoop]
    have h1 := s.next_fine
    have h2 := hf s.next (by omega)
    split
    · have h3 := argsLoop_fine hf k (e ++ [(part s.next).1]) (part s.next).2 (by omega)
      exact ⟨by rw [h3.1, h2.1, h1.1], by omega⟩
    · exact ⟨rfl, Nat.le_refl _⟩
theorem args_fine {n : Nat} {part : Par} (hf : Fine n part) (s : St) (h : s.left.length ≤ n) : (pArgs part s).2.deep = s.deep ∧ (pArgs part s).2.left.length ≤ s.left.length := by
  have h1 := hf s h
  have h2 := argsLoop_fine hf (part s).2.left.length [(part s).1] (part s).2 (by omega)
  exact ⟨by unfold pArgs; rw [h2.1, h1.1], by unfold pArgs; omega⟩

theorem infoExpr : (Tryz.prog.info? 47).map (fun i => (i.zero, i.size, i.bytes)) = some (some (.agg zero7), 7, 80) := by kernel_rfl
theorem seven_one (a b c d e : Int) (x : ByteArray) (p : Option Addr) (q r : Nat) : ∀ u ∈ [Value.int .i64 a, .int .i64 b, .int .i64 c, .int .i64 d, .string x, .int .i64 e, .slice p q r], u.oneCell' = true := by
  intro u hu
  simp only [List.mem_cons, List.not_mem_nil, or_false] at hu
  rcases hu with rfl | rfl | rfl | rfl | rfl | rfl | rfl <;> rfl

/-- What a round of arguments begins with: the list so far, in a row of its own. -/
structure ArgRow (R g : Nat) (N : Nat) (part : Par) (goal : List Ex × St) (d : Int) (out : Value) (w0 w : World) : Prop where
  went : Went R w0 w
  now : ∃ (k b cap : Nat) (es : List Ex) (cs : List (Array Value)) (s : St), out = .slice (some ⟨b, 0, none⟩) es.length cap ∧ w0.heap.size ≤ b ∧ R < w0.heap.size ∧ w.ownsRow w0.heap.size 47 7 out es.length (cs.flatMap Array.toList) ∧ AtAll w (fun q => w0.heap.size ≤ q ∧ q ≠ b) es cs ∧ Reads R g s w ∧
    s.left.length ≤ k ∧ s.left.length ≤ N ∧ es.length + s.left.length ≤ N + 1 ∧ es ≠ [] ∧ s.deep = d ∧ argsLoop part k es s = goal

/-- It answers a list of expressions in new memory. -/
def ListPost (R g : Nat) (p : List Ex × St) (w : World) (e : Ending) (w' : World) : Prop := ∃ v, e = .returned v ∧ KidsAt w' (w.heap.size ≤ ·) p.1 v ∧ Went R w w' ∧ Reads R g p.2 w'

theorem went_row {R b : Nat} {w w3 w4 : World} (h : Went R w w3) (hg : w3.grownBy w4 (some b)) (hb : w.heap.size ≤ b) : Went R w w4 :=
  ⟨hg.os.trans h.os, hg.tape.trans h.tape, hg.output.trans h.output, Nat.le_trans h.size hg.size, fun k hk hne => (hg.block k (Nat.lt_of_lt_of_le hk h.size) (by simp; omega)).trans (h.block k hk hne)⟩
theorem Reads.row' {R g b : Nat} {s : St} {w w' : World} (h : Reads R g s w) (hg : w.grownBy w' (some b)) (hb : R < b) : Reads R g s w' := by
  have h1 := h.lt; have h2 := h.low; have h3 := h.size
  obtain ⟨o, cap, a1, a2, a3⟩ := h.row
  exact ⟨h.lt, ⟨o, cap, (hg.block R h3 (by simp; omega)).trans a1, a2, a3.keep fun p => World.cell?_of_block (hg.block g (by omega) (by simp; omega))⟩, h.last, h.len, h.deep, h.low, h.signs.keep hg.size fun p => World.cell?_of_block (hg.block 1 (by have := h.signs.1; omega) (by simp; omega))⟩

set_option maxHeartbeats 2000000 in
set_option maxRecDepth 100000 in
theorem args_any {R g n : Nat} {part : Par} (hp : ExprOk R g n part) (hf : Fine n (pExpr part)) (s : St) (w : World) (hl : s.left.length ≤ n) (hd : s.deep + 2 * s.left.length + 1 ≤ 300000) (h : Reads R g s w) :
    Calls Tryz.prog 150 #[.pointer (some ⟨R, 0, none⟩)] w (ListPost R g (pArgs (pExpr part) s) w) := by
  obtain ⟨i0, hi, hz⟩ := Option.map_eq_some_iff.1 infoExpr
  obtain ⟨hz0, hz1, hz2⟩ : i0.zero = some (.agg zero7) ∧ i0.size = 7 ∧ i0.bytes = 80 := by simpa using hz
  have HI := Lib.hid hi; have HZ0 := Lib.hid hz0; have HZ1 := Lib.hid hz1; have HZ2 := Lib.hid hz2
  have HP := Lib.hid hp; have HF := Lib.hid hf; have HR := Lib.hid h
  have hRw := h.size
  have hlen := h.len
  clear hp hf h hz hi hz0 hz1 hz2
  go_enter Tryz.func150, Tryz.ntmps150
  go_wp2_with (fail)
  refine (HP.out s _ hl hd HR.out).mono ?_
  rintro e w1 ⟨cs, rfl, hat, hw1, hr1⟩
  obtain ⟨k3, l3, c3, n3, m3, o3, a3, b3, d3, rfl⟩ := hat.cells
  have hz1 := hw1.size
  have hf1 := HF.out s hl
  have HAR := Lib.hid (show ArgRow R g s.left.length (pExpr part) (pArgs (pExpr part) s) s.deep (.slice (some ⟨w1.heap.size, 0, none⟩) 1 1) w (w1.alloc (.cells (cells7 k3 l3 c3 n3 m3 o3 (.slice a3 b3 d3)) 47)) from
    ⟨went_alloc hw1 _, (pExpr part s).2.left.length, w1.heap.size, 1, [(pExpr part s).1], [cells7 k3 l3 c3 n3 m3 o3 (.slice a3 b3 d3)], (pExpr part s).2, rfl, hz1, hRw,
      ⟨rfl, .inr ⟨w1.heap.size, 1, _, rfl, hz1, heap_alloc_new _ _, Nat.le_refl _, by unfold maxLen; omega, rfl, rfl⟩⟩,
      ⟨Ex.At.keep (fun q hq hlt => ⟨hq, by omega⟩) (fun q _ hlt o => World.cell?_of_block (Below.heap_alloc _ _ _ hlt)) _ _ hat, trivial⟩, hr1.alloc _, Nat.le_refl _, hf1.2, by simp; omega, by simp, hf1.1, rfl⟩)
  clear hat hw1 hr1 hf1
  unfold cells7
  go_wp2_with (fail)
  go_loopw [3] (fun out wr => ArgRow R g s.left.length (pExpr part) (pArgs (pExpr part) s) s.deep out w wr) (fun _ wr => lenOf wr R)
  case atStart => exact HAR.out
  case round =>
    obtain ⟨hwt, k, b, cap, es, css, s2, rfl, hb0, hRw0, hown, hall, hrd, hlk, hln, hes, hne, hdd, hgo⟩ := hrel
    have HWT := Lib.hid hwt; have HOWN := Lib.hid hown; have HALL := Lib.hid hall; have HRD := Lib.hid hrd; have HGO := Lib.hid hgo; have HDD := Lib.hid hdd; have HNE := Lib.hid hne
    have hl1 : 1 ≤ s2.left.length := by have := hrd.last.ne; cases hq : s2.left with | nil => exact absurd hq this | cons => simp
    have hbw := (hown.lt b rfl).2
    clear hwt hown hall hrd hgo hdd hne HAR
    obtain ⟨k, rfl⟩ : ∃ q, k = q + 1 := ⟨k - 1, by omega⟩
    go_wp2_with (fail)
    refine (skip_any R g s2 [44] _ HRD.out).mono ?_
    rintro e' w2 ⟨rfl, hw2, hr2⟩
    have hsz2 := hw2.size
    have HW2 := Lib.hid hw2; have HR2 := Lib.hid hr2
    clear hw2 hr2
    cases hs : s2.sees [[44]]
    · have HGE := Lib.hid (show pArgs (pExpr part) s = (es, s2) by rw [← HGO.out, argsLoop, hs]; rfl)
      have HSK := Lib.hid (show s2.skip [44] = s2 by unfold St.skip; rw [hs]; rfl)
      clear hs
      go_wp2_with (fail)
      go_ret
      rw [HGE.out]
      have hr2 : Reads R g s2 w2 := by rw [← HSK.out]; exact HR2.out
      have hown2 := HOWN.out.kept HW2.out (.inr (by simp [Value.ownBlock]; omega))
      refine ⟨_, rfl, .inr ⟨HNE.out, b, 0, cap, rfl, hb0, ?_, by show es.length ≤ 4611686018427387904; omega, ?_⟩, HWT.out.trans HW2.out, hr2⟩
      · rcases hown2.2 with ⟨hv, _⟩ | ⟨g', cap', cur, hv, _, _, hle, _⟩
        · cases hv
        · cases hv; exact hle
      · have hall2 : AtAll w2 (w.heap.size ≤ ·) es css := HALL.out.keep (fun q h _ => h.1) (fun q h hlt o => World.cell?_of_block (HW2.out.block q hlt (by simp; omega)))
        exact hall2.row 0 fun j u hu => by have := hown2.cells (g := b) rfl j u hu; rwa [Go.WideShapes.add_plain] at this
    · have hnl := next_len HRD.out hs (by decide)
      have HGE := Lib.hid (show argsLoop (pExpr part) k (es ++ [(pExpr part s2.next).1]) (pExpr part s2.next).2 = pArgs (pExpr part) s by rw [← HGO.out, argsLoop, hs]; rfl)
      have HSK := Lib.hid (show s2.skip [44] = s2.next by unfold St.skip; rw [hs]; rfl)
      clear hs
      go_wp2_with (fail)
      have hf2 := HF.out s2.next (by omega)
      refine (HP.out s2.next _ (by omega) (by have := HDD.out; omega) (by rw [← HSK.out]; exact HR2.out)).mono ?_
      rintro e' w3 ⟨cs3, rfl, hat3, hw3, hr3⟩
      obtain ⟨k4, l4, c4, n4, m4, o4, a4, b4, d4, rfl⟩ := hat3.cells
      have hsz3 := hw3.size
      have hwb := HW2.out.trans hw3
      have hown3 := HOWN.out.kept hwb (.inr (by simp [Value.ownBlock]; omega))
      have HWB := Lib.hid hwb; have HOWN3 := Lib.hid hown3; have HAT3 := Lib.hid hat3; have HR3 := Lib.hid hr3; have HF2 := Lib.hid hf2; have HNL := Lib.hid hnl; have HW3 := Lib.hid hw3
      clear hwb hown3 hat3 hr3 hw3
      unfold cells7
      go_wp2_with (first | (at_builtin; refine wpList_append_lies _ rfl _ _ 45 rfl w.heap.size 47 i0 (.agg zero7) 7 80 Tryz.underlying45 HI.out HZ0.out HZ1.out HZ2.out rfl (by decide) _ es.length (css.flatMap Array.toList) rfl ?hown ⟨w3.heap.size, 0, none⟩ 1 1 [.int .i64 k4, .int .i64 l4, .int .i64 c4, .int .i64 n4, .string ⟨m4.toArray⟩, .int .i64 o4, .slice a4 b4 d4] rfl rfl ?hnews (seven_one _ _ _ _ _ _ _ _ _) (by decide) ?h63 ?hby ?hba (w3.heap.size + 1) ?hH ?_))
      case hown => exact HOWN3.out.alloc _
      case hnews => exact cells_at _ [.int .i64 k4, .int .i64 l4, .int .i64 c4, .int .i64 n4, .string ⟨m4.toArray⟩, .int .i64 o4, .slice a4 b4 d4] _ _ rfl
      case h63 => unfold maxLen; omega
      case hby => omega
      case hba => simp; omega
      case hH => simp
      intro b2 cap2 w4 hown4 hgrow4 hat4 hlt4
      have hb2 : b2 = b ∨ b2 = w3.heap.size + 1 := by rcases hat4 with h | h; exact .inl (by simpa [Value.ownBlock] using h.symm); exact .inr h
      have hgr : (w3.alloc (.cells (cells7 k4 l4 c4 n4 m4 o4 (.slice a4 b4 d4)) 47)).grownBy w4 (some b) := hgrow4
      have hga : w3.grownBy (w3.alloc (.cells (cells7 k4 l4 c4 n4 m4 o4 (.slice a4 b4 d4)) 47)) none := grown_alloc _ _
      have hrd4 : Reads R g (pExpr part s2.next).2 w4 := (HR3.out.alloc _).row' hgr (by omega)
      have hgoal : ArgRow R g s.left.length (pExpr part) (pArgs (pExpr part) s) s.deep (.slice (some ⟨b2, 0, none⟩) (es.length + 1) cap2) w w4 := by
        refine ⟨went_row ((HWT.out.trans HWB.out).trans (went_none hga)) hgr hb0, k, b2, cap2, es ++ [(pExpr part s2.next).1], css ++ [cells7 k4 l4 c4 n4 m4 o4 (.slice a4 b4 d4)], (pExpr part s2.next).2, by simp, by omega, hRw, ?_, ?_, hrd4, by have := HF2.out; have := HNL.out; omega, by have := HF2.out; have := HNL.out; omega, by have := HF2.out; have := HNL.out; simp; omega, by simp, by rw [HF2.out.1, HNL.out.2]; exact HDD.out, HGE.out⟩
        · have e1 : (css ++ [cells7 k4 l4 c4 n4 m4 o4 (.slice a4 b4 d4)]).flatMap Array.toList = css.flatMap Array.toList ++ [.int .i64 k4, .int .i64 l4, .int .i64 c4, .int .i64 n4, .string ⟨m4.toArray⟩, .int .i64 o4, .slice a4 b4 d4] := by
            rw [List.flatMap_append]; rfl
          rw [e1, List.length_append]
          exact hown4
        · refine AtAll.snoc ?_ ?_
          · refine Ex.At.keep (fun q hq hlt => ⟨by have : w2.heap.size ≤ q := hq; have := HWT.out.size; omega, by have : w2.heap.size ≤ q := hq; omega⟩) (fun q hq hlt o => ?_) _ _ HAT3.out
            have hq' : w2.heap.size ≤ q := hq
            rw [World.cell?_of_block (hgr.block q (by simp; omega) (by simp; omega)), World.cell?_of_block (hga.block q hlt (by simp))]
          · refine HALL.out.keep (fun q hq hlt => ⟨hq.1, by omega⟩) (fun q hq hlt o => ?_)
            rw [World.cell?_of_block (hgr.block q (by simp; omega) (by simp; omega)), World.cell?_of_block (hga.block q (by omega) (by simp)), World.cell?_of_block (HWB.out.block q hlt (by simp; omega))]
      have hlen4 : lenOf w4 R = (pExpr part s2.next).2.left.length := lenOf_reads hrd4
      have HGOAL := Lib.hid hgoal; have HL4 := Lib.hid hlen4
      clear hgoal hlen4 hrd4 hga hgr hgrow4 hown4 hat4 hb2
      go_wp2_with (fail)
      go_roundw
      case rel => exact HGOAL.out
      case measure => rw [HL4.out, lenOf_reads HRD.out]; have := HF2.out; have := HNL.out; omega
end Go.Proofs.YtaomlahphlemdaaGreatDoor

namespace Go.Proofs.YtaomlahphlemdaaGreatDoor
open Go.ChangeShapes Go.WideShapes Go.ChangeAt Go.RowKit
set_option linter.unusedVariables false

def pNamed (ex : Par) (t : Tok) : Par := fun s =>
  if s.sees [[91]] then (.mk 4 t.line t.col 0 t.text 0 [(ex s.next).1], (ex s.next).2.must [93])
  else if s.sees [[40]] then
    if s.next.sees [[41]] then (.mk 5 t.line t.col 0 t.text 0 [], s.next.must [41])
    else (.mk 5 t.line t.col 0 t.text 0 (pArgs ex s.next).1, (pArgs ex s.next).2.must [41])
  else (.mk 3 t.line t.col 0 t.text 0 [], s)
theorem St.must_fine (s : St) (x : List UInt8) : (s.must x).deep = s.deep ∧ (s.must x).left.length ≤ s.left.length := by
  unfold St.must; split
  · exact s.next_fine
  · exact s.fail_fine _ _ _
theorem named_fine {n : Nat} {ex : Par} (hf : Fine n ex) (t : Tok) : Fine n (pNamed ex t) := fun s h => by
  have h1 := s.next_fine
  have h2 := hf s.next (by omega)
  have h3 := (ex s.next).2.must_fine [93]
  have h4 := args_fine hf s.next (by omega)
  have h5 := (pArgs ex s.next).2.must_fine [41]
  have h6 := s.next.must_fine [41]
  unfold pNamed
  split
  · exact ⟨by simp only; rw [h3.1, h2.1, h1.1], by simp only; omega⟩
  · split
    · split
      · exact ⟨by simp only; rw [h6.1, h1.1], by simp only; omega⟩
      · exact ⟨by simp only; rw [h5.1, h4.1, h1.1], by simp only; omega⟩
    · exact ⟨rfl, Nat.le_refl _⟩

/-- What named has laid at its beginning: the answer's place, the expression under way. -/
structure Laid3 (R r b : Nat) (ce : Array Value) (w W : World) : Prop where
  went : Went R w W
  res : W.heap[r]? = some (.cells zero7 47 (0, 0))
  blk : W.heap[b]? = some (.cells ce 47 (0, 0))
theorem Laid3.went' {R r b : Nat} {ce : Array Value} {w W W' : World} (h : Laid3 R r b ce w W) (hw : Went R W W') (hr : R < r) (hb : R < b) : Laid3 R r b ce w W' :=
  ⟨h.went.trans hw, hw.keep h.res (by omega), hw.keep h.blk (by omega)⟩

theorem Laid3.put {R r b : Nat} {ce : Array Value} {w W : World} (h : Laid3 R r b ce w W) (j : Nat) (v : Value) (hrb : r < b) (hw : w.heap.size ≤ b) : Laid3 R r b (ce.setIfInBounds j v) w (W.setCell ⟨b, j, none⟩ v) :=
  ⟨went_new h.went j v hw, (Below.heap_setCell _ _ _ _ (by show r ≠ b; omega)).trans h.res, set_block _ _ _ _ _ _ h.blk⟩
theorem Laid3.alloc {R r b : Nat} {ce : Array Value} {w W : World} (h : Laid3 R r b ce w W) (o : Obj) : Laid3 R r b ce w (W.alloc o) :=
  ⟨went_alloc h.went o, alloc_past _ _ _ _ (Array.getElem?_eq_some_iff.1 h.res).1 h.res, alloc_past _ _ _ _ (Array.getElem?_eq_some_iff.1 h.blk).1 h.blk⟩
theorem kids_slice {w : World} {S : Nat → Prop} {es : List Ex} {v : Value} (h : KidsAt w S es v) : ∃ a k c, v = .slice a k c := by
  rcases h with ⟨_, a, cap, rfl⟩ | ⟨_, g, o, cap, rfl, _⟩ <;> exact ⟨_, _, _, rfl⟩
theorem add1_ne (a : Nat) : a + 1 ≠ a := by omega

set_option maxHeartbeats 2000000 in
set_option maxRecDepth 100000 in
theorem named_any {R g n : Nat} {part : Par} (hp : ExprOk R g n part) (hf : Fine n (pExpr part)) (t : Tok) (s : St) (w : World) (hl : s.left.length ≤ n) (hd : s.deep + 2 * s.left.length ≤ 300000) (h : Reads R g s w) :
    Calls Tryz.prog 149 #[.pointer (some ⟨R, 0, none⟩), tokAgg t] w (ExPost R g (pNamed (pExpr part) t s) w) := by
  obtain ⟨kd, tx, nm, ln, cl⟩ := t
  have HP := Lib.hid hp; have HF := Lib.hid hf; have HR := Lib.hid h
  have hRw := h.size
  clear hp hf h
  unfold tokAgg
  simp only
  go_enter Tryz.func149, Tryz.ntmps149
  go_wp2_with (fail)
  generalize hW : ((w.alloc (.cells #[.int .i64 kd, .string ⟨tx.toArray⟩, .int .i64 nm, .int .i64 ln, .int .i64 cl] 132)).alloc (.cells #[.int .i64 0, .int .i64 0, .int .i64 0, .int .i64 0, .string ⟨#[]⟩, .int .i64 0, .slice none 0 0] 47)).alloc (.cells #[.int .i64 3, .int .i64 ln, .int .i64 cl, .int .i64 0, .string ⟨tx.toArray⟩, .int .i64 0, .slice none 0 0] 47) = W
  have hg : w.grownBy W none := by rw [← hW]; exact grown_trans (grown_trans (grown_alloc _ _) (grown_alloc _ _)) (grown_alloc _ _)
  have hsW : W.heap.size = w.heap.size + 3 := by rw [← hW]; simp
  have hL : Laid3 R (w.heap.size + 1) (w.heap.size + 1 + 1) (cells7 3 ln cl 0 tx 0 (.slice none 0 0)) w W := by
    refine ⟨went_none hg, ?_, ?_⟩
    · rw [← hW]; exact alloc_past _ _ _ _ (by simp) (alloc_at _ _ _ (by simp))
    · rw [← hW]; exact alloc_at _ _ _ (by simp)
  clear hW
  have HL := Lib.hid hL; have HRW := Lib.hid (HR.out.more hg)
  clear hL hg
  refine (skip_any R g s [91] _ HRW.out).mono ?_
  rintro e w1 ⟨rfl, hw1, hr1⟩
  have hz1 := hw1.size
  have hL1 := HL.out.went' hw1 (by omega) (by omega)
  obtain ⟨⟨x0, x1, x2, x3, x4, x5, x6⟩, f0, f1, f2, f3, f4, f5, f6⟩ := seven hL1.blk
  obtain ⟨⟨z0, z1, z2, z3, z4, z5, z6⟩, h0, h1, h2, h3, h4, h5, h6⟩ := seven hL1.res
  have HL1 := Lib.hid hL1; have HR1 := Lib.hid hr1
  have hlt1 : w.heap.size + 1 < w1.heap.size := by omega
  have hlt2 : w.heap.size + 1 + 1 < w1.heap.size := by omega
  clear hL1 hr1 hw1
  cases hs : s.sees [[91]]
  · have HSK := Lib.hid (show s.skip [91] = s by unfold St.skip; rw [hs]; rfl)
    have HS1 := Lib.hid hs
    clear hs
    go_wp2_with (fail)
    refine (skip_any R g s [40] _ (by rw [← HSK.out]; exact HR1.out)).mono ?_
    rintro e w2 ⟨rfl, hw2, hr2⟩
    have hz2 := hw2.size
    have hL2 := HL1.out.went' hw2 (by omega) (by omega)
    clear x0 x1 x2 x3 x4 x5 x6 f0 f1 f2 f3 f4 f5 f6 z0 z1 z2 z3 z4 z5 z6 h0 h1 h2 h3 h4 h5 h6
    obtain ⟨⟨x0, x1, x2, x3, x4, x5, x6⟩, f0, f1, f2, f3, f4, f5, f6⟩ := seven hL2.blk
    obtain ⟨⟨z0, z1, z2, z3, z4, z5, z6⟩, h0, h1, h2, h3, h4, h5, h6⟩ := seven hL2.res
    have HL2 := Lib.hid hL2; have HR2 := Lib.hid hr2
    have hlt3 : w.heap.size + 1 < w2.heap.size := by omega
    have hlt4 : w.heap.size + 1 + 1 < w2.heap.size := by omega
    clear hL2 hr2 hw2
    cases hs : s.sees [[40]]
    · have HV := Lib.hid (show pNamed (pExpr part) ⟨kd, tx, nm, ln, cl⟩ s = (.mk 3 ln cl 0 tx 0 [], s) by unfold pNamed; rw [if_neg (by rw [HS1.out]; decide), if_neg (by rw [hs]; decide)])
      have HSK2 := Lib.hid (show s.skip [40] = s by unfold St.skip; rw [hs]; rfl)
      clear hs
      go_wp2_with (fail)
      refine bodyPost_ret (v := .agg (cells7 3 ln cl 0 tx 0 (.slice none 0 0))) (by simp [results, Tryz.results149, go_sem, cells7, z0, z1, z2, z3, z4, z5, z6]) rfl ?_
      rw [HV.out]
      refine ex_end (r := w.heap.size + 1) (S := fun q => w.heap.size + 1 + 1 < q) ?_ (at_none 3 ln cl 0 tx 0 in0 in0 none 0) (fun q hq => ⟨by omega, by omega⟩) (by omega) (by omega) HL2.out.went (by rw [← HSK2.out]; exact HR2.out)
      repeat (first | with_reducible (refine Sets.set ?_ _ _) | with_reducible (exact Sets.refl _ _))
    · have hnl := next_len HRW.out hs (by decide)
      have HSK2 := Lib.hid (show s.skip [40] = s.next by unfold St.skip; rw [hs]; rfl)
      have HS2 := Lib.hid hs
      clear hs
      go_wp2_with (fail)
      have hr3 : Reads R g s.next ((w2.setCell ⟨w.heap.size + 1 + 1, 0, none⟩ (.int .i64 5)).alloc (.cells #[.string ⟨#[41]⟩] 9)) := by rw [← HSK2.out]; exact (HR2.out.set _ _ (by omega)).alloc _
      have hL3 := (HL2.out.put 0 (.int .i64 5) (by omega) (by omega)).alloc (.cells #[.string ⟨#[41]⟩] 9)
      have hmk : Marks ((w2.setCell ⟨w.heap.size + 1 + 1, 0, none⟩ (.int .i64 5)).alloc (.cells #[.string ⟨#[41]⟩] 9)) w2.heap.size [[41]] := marks_of (alloc_at _ _ _ (by simp))
      refine (sees_any R g s.next w2.heap.size 1 [[41]] (by decide) _ hr3 hmk (by simp)).mono ?_
      rintro e w3 ⟨rfl, hg3⟩
      have hz3 := hg3.size
      simp at hz3
      have hL3' := hL3.went' (went_none hg3) (by omega) (by omega)
      clear x0 x1 x2 x3 x4 x5 x6 f0 f1 f2 f3 f4 f5 f6 z0 z1 z2 z3 z4 z5 z6 h0 h1 h2 h3 h4 h5 h6
      have hbk3 : w3.heap[w.heap.size + 1 + 1]? = some (.cells (cells7 5 ln cl 0 tx 0 (.slice none 0 0)) 47 (0, 0)) := hL3'.blk
      obtain ⟨⟨x0, x1, x2, x3, x4, x5, x6⟩, f0, f1, f2, f3, f4, f5, f6⟩ := seven hbk3
      obtain ⟨⟨z0, z1, z2, z3, z4, z5, z6⟩, h0, h1, h2, h3, h4, h5, h6⟩ := seven hL3'.res
      have HL3 := Lib.hid hL3'; have HR3 := Lib.hid (hr3.more hg3)
      have hlt5 : w.heap.size + 1 < w3.heap.size := by omega
      have hlt6 : w.heap.size + 1 + 1 < w3.heap.size := by omega
      clear hL3 hL3' hr3 hmk hg3 hbk3
      cases hs : s.next.sees [[41]]
      · have HV := Lib.hid (show pNamed (pExpr part) ⟨kd, tx, nm, ln, cl⟩ s = (.mk 5 ln cl 0 tx 0 (pArgs (pExpr part) s.next).1, (pArgs (pExpr part) s.next).2.must [41]) by unfold pNamed; rw [if_neg (by rw [HS1.out]; decide), if_pos HS2.out, if_neg (by rw [hs]; decide)])
        clear hs
        go_wp2_with (fail)
        refine (args_any HP.out HF.out s.next _ (by omega) (by omega) HR3.out).mono ?_
        rintro e w4 ⟨v, rfl, hkid, hw4, hr4⟩
        obtain ⟨va, vk, vc, rfl⟩ := kids_slice hkid
        have hz4 := hw4.size
        have hL4 := HL3.out.went' hw4 (by omega) (by omega)
        clear x0 x1 x2 x3 x4 x5 x6 f0 f1 f2 f3 f4 f5 f6 z0 z1 z2 z3 z4 z5 z6 h0 h1 h2 h3 h4 h5 h6
        have hbk4 : w4.heap[w.heap.size + 1 + 1]? = some (.cells (cells7 5 ln cl 0 tx 0 (.slice none 0 0)) 47 (0, 0)) := hL4.blk
        obtain ⟨⟨x0, x1, x2, x3, x4, x5, x6⟩, f0, f1, f2, f3, f4, f5, f6⟩ := seven hbk4
        have HL4 := Lib.hid hL4; have HR4 := Lib.hid hr4; have HKID := Lib.hid hkid
        have hlt7 : w.heap.size + 1 + 1 < w4.heap.size := by omega
        clear hL4 hr4 hw4 hbk4 hkid
        go_wp2_with (fail)
        refine (must_any R g (pArgs (pExpr part) s.next).2 [41] _ (HR4.out.set _ _ (by omega))).mono ?_
        rintro e w5 ⟨rfl, hw5, hr5⟩
        have hz5 := hw5.size
        simp at hz5
        have hL5 := (HL4.out.put 6 (.slice va vk vc) (by omega) (by omega)).went' hw5 (by omega) (by omega)
        have hkid5 : KidsAt w5 (fun q => w.heap.size + 1 + 1 < q) (pArgs (pExpr part) s.next).1 (.slice va vk vc) := by
          refine HKID.out.keep (fun q hq hlt => by have : w3.heap.size ≤ q := hq; omega) (fun q hq hlt o => ?_)
          have h9 : w3.heap.size ≤ q := hq
          rw [World.cell?_of_block (hw5.block q (by simp; omega) (by simp; omega)), World.cell?_of_block (Below.heap_setCell _ _ _ _ (by show q ≠ w.heap.size + 1 + 1; omega))]
        clear x0 x1 x2 x3 x4 x5 x6 f0 f1 f2 f3 f4 f5 f6
        have hbk5 : w5.heap[w.heap.size + 1 + 1]? = some (.cells (cells7 5 ln cl 0 tx 0 (.slice va vk vc)) 47 (0, 0)) := hL5.blk
        obtain ⟨⟨x0, x1, x2, x3, x4, x5, x6⟩, f0, f1, f2, f3, f4, f5, f6⟩ := seven hbk5
        obtain ⟨⟨z0, z1, z2, z3, z4, z5, z6⟩, h0, h1, h2, h3, h4, h5, h6⟩ := seven hL5.res
        have HL5 := Lib.hid hL5; have HR5 := Lib.hid hr5
        have HAT5 := Lib.hid (at_kids 5 ln cl 0 tx 0 in0 in0 hkid5)
        have hlt8 : w.heap.size + 1 < w5.heap.size := by omega
        have hlt9 : w.heap.size + 1 + 1 < w5.heap.size := by omega
        clear hL5 hr5 hw5 hkid5 hbk5
        go_wp2_with (fail)
        refine bodyPost_ret (v := .agg (cells7 5 ln cl 0 tx 0 (.slice va vk vc))) (by simp [results, Tryz.results149, go_sem, cells7, z0, z1, z2, z3, z4, z5, z6]) rfl ?_
        rw [HV.out]
        refine ex_end (r := w.heap.size + 1) (S := fun q => w.heap.size + 1 + 1 < q) ?_ HAT5.out (fun q hq => ⟨by omega, by omega⟩) (by omega) (by omega) HL5.out.went HR5.out
        repeat (first | with_reducible (refine Sets.set ?_ _ _) | with_reducible (exact Sets.refl _ _))
      · have HV := Lib.hid (show pNamed (pExpr part) ⟨kd, tx, nm, ln, cl⟩ s = (.mk 5 ln cl 0 tx 0 [], s.next.must [41]) by unfold pNamed; rw [if_neg (by rw [HS1.out]; decide), if_pos HS2.out, if_pos hs])
        clear hs
        go_wp2_with (fail)
        refine (must_any R g s.next [41] _ HR3.out).mono ?_
        rintro e w4 ⟨rfl, hw4, hr4⟩
        have hz4 := hw4.size
        have hL4 := HL3.out.went' hw4 (by omega) (by omega)
        clear x0 x1 x2 x3 x4 x5 x6 f0 f1 f2 f3 f4 f5 f6 z0 z1 z2 z3 z4 z5 z6 h0 h1 h2 h3 h4 h5 h6
        have hbk4 : w4.heap[w.heap.size + 1 + 1]? = some (.cells (cells7 5 ln cl 0 tx 0 (.slice none 0 0)) 47 (0, 0)) := hL4.blk
        obtain ⟨⟨x0, x1, x2, x3, x4, x5, x6⟩, f0, f1, f2, f3, f4, f5, f6⟩ := seven hbk4
        obtain ⟨⟨z0, z1, z2, z3, z4, z5, z6⟩, h0, h1, h2, h3, h4, h5, h6⟩ := seven hL4.res
        have HL4 := Lib.hid hL4; have HR4 := Lib.hid hr4
        have hlt7 : w.heap.size + 1 < w4.heap.size := by omega
        have hlt8 : w.heap.size + 1 + 1 < w4.heap.size := by omega
        clear hL4 hr4 hw4 hbk4
        go_wp2_with (fail)
        refine bodyPost_ret (v := .agg (cells7 5 ln cl 0 tx 0 (.slice none 0 0))) (by simp [results, Tryz.results149, go_sem, cells7, z0, z1, z2, z3, z4, z5, z6]) rfl ?_
        rw [HV.out]
        refine ex_end (r := w.heap.size + 1) (S := fun q => w.heap.size + 1 + 1 < q) ?_ (at_none 5 ln cl 0 tx 0 in0 in0 none 0) (fun q hq => ⟨by omega, by omega⟩) (by omega) (by omega) HL4.out.went HR4.out
        repeat (first | with_reducible (refine Sets.set ?_ _ _) | with_reducible (exact Sets.refl _ _))
  · have hnl := next_len HRW.out hs (by decide)
    have HSK := Lib.hid (show s.skip [91] = s.next by unfold St.skip; rw [hs]; rfl)
    have HV := Lib.hid (show pNamed (pExpr part) ⟨kd, tx, nm, ln, cl⟩ s = (.mk 4 ln cl 0 tx 0 [(pExpr part s.next).1], (pExpr part s.next).2.must [93]) by unfold pNamed; rw [if_pos hs])
    clear hs
    go_wp2_with (fail)
    have hr1' : Reads R g s.next (w1.setCell ⟨w.heap.size + 1 + 1, 0, none⟩ (.int .i64 4)) := by rw [← HSK.out]; exact HR1.out.set _ _ (by omega)
    refine (HP.out s.next _ (by omega) (by omega) hr1').mono ?_
    clear hr1'
    rintro e w2 ⟨cs, rfl, hat, hw2, hr2⟩
    obtain ⟨k3, l3, c3, n3, m3, o3, a3, b3, d3, rfl⟩ := hat.cells
    have hz2 := hw2.size
    simp at hz2
    have hL2 := (HL1.out.put 0 (.int .i64 4) (by omega) (by omega)).went' hw2 (by omega) (by omega)
    clear x0 x1 x2 x3 x4 x5 x6 f0 f1 f2 f3 f4 f5 f6 z0 z1 z2 z3 z4 z5 z6 h0 h1 h2 h3 h4 h5 h6
    have hbk2 : w2.heap[w.heap.size + 1 + 1]? = some (.cells (cells7 4 ln cl 0 tx 0 (.slice none 0 0)) 47 (0, 0)) := hL2.blk
    obtain ⟨⟨x0, x1, x2, x3, x4, x5, x6⟩, f0, f1, f2, f3, f4, f5, f6⟩ := seven hbk2
    have HL2 := Lib.hid hL2; have HR2 := Lib.hid hr2; have HAT := Lib.hid hat
    have hlt3 : w.heap.size + 1 + 1 < w2.heap.size := by omega
    clear hL2 hr2 hw2 hat hbk2
    unfold cells7
    go_wp2_with (fail)
    refine (must_any R g (pExpr part s.next).2 [93] _ (by repeat (first | with_reducible (refine Reads.alloc ?_ _) | with_reducible (refine Reads.set ?_ _ _ (by omega)) | with_reducible (exact HR2.out)))).mono ?_
    rintro e w4 ⟨rfl, hw4, hr4⟩
    have hL4 := ((HL2.out.put 6 (.slice (some ⟨w2.heap.size, 0, none⟩) 1 1) (by omega) (by omega)).alloc (.cells (cells7 k3 l3 c3 n3 m3 o3 (.slice a3 b3 d3)) 47)).went' hw4 (by omega) (by omega)
    have hz4 := hw4.size
    simp at hz4
    have hkb : w4.heap[w2.heap.size]? = some (.cells (cells7 k3 l3 c3 n3 m3 o3 (.slice a3 b3 d3)) 47 (0, 0)) := hw4.keep (alloc_at _ _ _ (by simp)) (by omega)
    have hat4 : (pExpr part s.next).1.At w4 (fun q => w.heap.size + 1 + 1 < q) (cells7 k3 l3 c3 n3 m3 o3 (.slice a3 b3 d3)) := by
      refine Ex.At.keep (fun q hq hlt => ?_) (fun q hq hlt o => ?_) _ _ HAT.out
      · have : (w1.setCell ⟨w.heap.size + 1 + 1, 0, none⟩ (.int .i64 4)).heap.size ≤ q := hq
        simp at this; omega
      · have h9 : (w1.setCell ⟨w.heap.size + 1 + 1, 0, none⟩ (.int .i64 4)).heap.size ≤ q := hq
        simp at h9
        rw [World.cell?_of_block (hw4.block q (by simp; omega) (by simp; omega)), World.cell?_of_block (Below.heap_alloc _ _ _ (by simp; omega)), World.cell?_of_block (Below.heap_setCell _ _ _ _ (by show q ≠ w.heap.size + 1 + 1; omega))]
    have hbk4 : w4.heap[w.heap.size + 1 + 1]? = some (.cells (cells7 4 ln cl 0 tx 0 (.slice (some ⟨w2.heap.size, 0, none⟩) 1 1)) 47 (0, 0)) := hL4.blk
    clear x0 x1 x2 x3 x4 x5 x6 f0 f1 f2 f3 f4 f5 f6
    obtain ⟨⟨x0, x1, x2, x3, x4, x5, x6⟩, f0, f1, f2, f3, f4, f5, f6⟩ := seven hbk4
    obtain ⟨⟨z0, z1, z2, z3, z4, z5, z6⟩, h0, h1, h2, h3, h4, h5, h6⟩ := seven hL4.res
    have HL4 := Lib.hid hL4; have HR4 := Lib.hid hr4
    have HAT4 := Lib.hid (at_one (kind := 4) (line := ln) (col := cl) (num := 0) (name := tx) (op := 0) (show w.heap.size + 1 + 1 < w2.heap.size by omega) hkb hat4 in0 in0 1 (Nat.le_refl _) (.inr rfl))
    have hlt5 : w.heap.size + 1 < w4.heap.size := by omega
    have hlt6 : w.heap.size + 1 + 1 < w4.heap.size := by omega
    clear hL4 hr4 hw4 hkb hat4 hbk4
    go_wp2_with (fail)
    refine bodyPost_ret (v := .agg (cells7 4 ln cl 0 tx 0 (.slice (some ⟨w2.heap.size, 0, none⟩) 1 1))) (by simp [results, Tryz.results149, go_sem, cells7, z0, z1, z2, z3, z4, z5, z6]) rfl ?_
    rw [HV.out]
    refine ex_end (r := w.heap.size + 1) (S := fun q => w.heap.size + 1 + 1 < q) ?_ HAT4.out (fun q hq => ⟨by omega, by omega⟩) (by omega) (by omega) HL4.out.went HR4.out
    repeat (first | with_reducible (refine Sets.set ?_ _ _) | with_reducible (exact Sets.refl _ _))
end Go.Proofs.YtaomlahphlemdaaGreatDoor

namespace Go.Proofs.YtaomlahphlemdaaGreatDoor
open Go.ChangeShapes Go.WideShapes Go.ChangeAt Go.RowKit
set_option linter.unusedVariables false

def pAndOf (u : Par) : Par := chainL (pRel (pSum u)) andMarks
def pExprOf (u : Par) : Par := pExpr (pAndOf u)
def noEx : Ex := .mk 0 0 0 0 [] 0 []
/-- unary, over what it calls again. -/
def unaryStep (u : Par) : Par := fun s =>
  if s.now.text = [33] then (.mk 9 s.now.line s.now.col 0 [] 0 [(pOperand u s).1], (pOperand u s).2)
  else if s.now.text = [45] then (.mk 6 s.now.line s.now.col 0 [] 2 [.mk 1 s.now.line s.now.col 0 [] 0 [], (pOperand u s).1], (pOperand u s).2)
  else if s.now.text = [40] then ((pExprOf u s.next).1, (pExprOf u s.next).2.must [41])
  else if s.now.text = [116, 114, 117, 101] then (.mk 2 s.now.line s.now.col 1 [] 0 [], s.next)
  else if s.now.text = [102, 97, 108, 115, 101] then (.mk 2 s.now.line s.now.col 0 [] 0 [], s.next)
  else if s.now.kind = 2 then (.mk 1 s.now.line s.now.col s.now.num [] 0 [], s.next)
  else if s.now.kind = 1 then pNamed (pExprOf u) s.now s.next
  else (noEx, s.refuse)
def pUnary : Nat → Par
  | 0 => fun s => (noEx, s)
  | n + 1 => unaryStep (pUnary n)

theorem now_ok {R g : Nat} {s : St} {w : World} (h : Reads R g s w) : TokOk s.now := by
  obtain ⟨t, r, e⟩ := List.exists_cons_of_ne_nil h.last.ne
  have hnow : s.now = t := by unfold St.now; rw [e]; rfl
  rw [hnow]; exact h.last.2 t (by rw [e]; simp)
theorem now_more {R g n : Nat} {s : St} {w : World} (h : Reads R g s w) (hk : s.now.kind ≠ 0) : s.next.left.length + 1 = s.left.length ∧ s.next.deep = s.deep := by
  obtain ⟨t, r, e⟩ := List.exists_cons_of_ne_nil h.last.ne
  unfold St.next
  rw [if_neg hk]
  simp [e]

/-- What unary has laid at its beginning: the answer's place, the token. -/
structure Laid2 (R r tb : Nat) (ct : Array Value) (w W : World) : Prop where
  went : Went R w W
  res : W.heap[r]? = some (.cells zero7 47 (0, 0))
  tok : W.heap[tb]? = some (.cells ct 132 (0, 0))
theorem Laid2.went' {R r tb : Nat} {ct : Array Value} {w W W' : World} (h : Laid2 R r tb ct w W) (hw : Went R W W') (hr : R < r) (hb : R < tb) : Laid2 R r tb ct w W' :=
  ⟨h.went.trans hw, hw.keep h.res (by omega), hw.keep h.tok (by omega)⟩
theorem laid2_of {R : Nat} {w w1 : World} {t : Tok} (hg : (w.alloc (.cells zero7 47)).grownBy w1 none) (hR : R < w.heap.size) : Laid2 R w.heap.size w1.heap.size (tokCells t) w (w1.alloc (.cells (tokCells t) 132)) := by
  have hz := hg.size
  simp at hz
  exact ⟨went_none (grown_trans (grown_trans (grown_alloc _ _) hg) (grown_alloc _ _)), alloc_past _ _ _ _ (by omega) ((went_none (R := R) hg).keep (alloc_at _ _ _ rfl) (by omega)), alloc_at _ _ _ rfl⟩
/-- What an operand leaves, the token and the answer's place still there. -/
def OperPost (R g r tb : Nat) (ct : Array Value) (p : Ex × St) (w W : World) (e : Ending) (w' : World) : Prop :=
  ∃ k l c n m o x y z, e = .returned (.agg (cells7 k l c n m o (.slice x y z))) ∧ p.1.At w' (W.heap.size ≤ ·) (cells7 k l c n m o (.slice x y z)) ∧ Laid2 R r tb ct w w' ∧ Reads R g p.2 w' ∧ W.heap.size ≤ w'.heap.size
theorem oper_in {R g n r tb : Nat} {u : Par} {ct : Array Value} {s : St} {w W : World} (hp : ParOk R g n 147 u) (hf : Fine n u) (hl : s.left.length ≤ n + 1) (hk : s.now.kind ≠ 0) (hd : s.deep + 2 * s.left.length ≤ 300000) (h : Reads R g s W) (hL : Laid2 R r tb ct w W) (hr : R < r) (htb : R < tb) :
    ∀ wx, W.grownBy wx none → Calls Tryz.prog 148 #[.pointer (some ⟨R, 0, none⟩)] wx (OperPost R g r tb ct (pOperand u s) w W) := by
  intro wx hg
  refine (operand_any hp hf s wx hl hk hd (h.more hg)).mono ?_
  rintro e w' ⟨cs, rfl, hat, hw, hr'⟩
  obtain ⟨k, l, c, n, m, o, x, y, z, rfl⟩ := hat.cells
  have hz := hg.size
  exact ⟨k, l, c, n, m, o, x, y, z, rfl, hat.weak (fun q hq => by have : wx.heap.size ≤ q := hq; omega), (hL.went' (went_none hg) hr htb).went' hw hr htb, hr', by have := hw.size; omega⟩

theorem kid_end {R g r n0 : Nat} {kind line col num : Int} {name : List UInt8} {op : Int} {e : Ex} {s : St} {cs : Array Value} {w w9 wx : World} (hs : Sets r w9 wx) (hat : e.At w9 (n0 ≤ ·) cs) (hr : r < n0) (hwr : w.heap.size ≤ r) (hR : R < r) (hw : Went R w w9) (hrd : Reads R g s w9) (hn : InI64 num) (ho : InI64 op) (h4 : kind ≠ 4 := by decide) :
    ExPost R g (.mk kind line col num name op [e], s) w (.returned (.agg (cells7 kind line col num name op (.slice (some ⟨w9.heap.size, 0, none⟩) 1 1)))) (wx.alloc (.cells cs 47)) := by
  have hz := hw.size
  refine ⟨_, rfl, at_one (S := (w.heap.size ≤ ·)) hz (alloc_at _ _ _ hs.size.symm) ?_ hn ho 1 (Nat.le_refl _) (.inl h4), went_alloc (hw.sets hwr hs) _, (hrd.sets hR hs).alloc _⟩
  refine Ex.At.keep (fun q hq hlt => by have : n0 ≤ q := hq; omega) (fun q hq hlt o => ?_) _ _ hat
  have h9 : n0 ≤ q := hq
  rw [World.cell?_of_block (Below.heap_alloc _ _ _ (by rw [hs.size]; exact hlt)), World.cell?_of_block (hs.keep q (by omega))]

set_option maxHeartbeats 2000000 in
set_option maxRecDepth 100000 in
theorem unary_not {R g n : Nat} {u : Par} (hp : ParOk R g n 147 u) (hf : Fine n u) (s : St) (w : World) (hl : s.left.length ≤ n + 1) (hd : s.deep + 2 * s.left.length ≤ 300000) (h : Reads R g s w) (kd nm ln cl : Int) (hnow : s.now = ⟨kd, [33], nm, ln, cl⟩) :
    Calls Tryz.prog 147 #[.pointer (some ⟨R, 0, none⟩)] w (ExPost R g (unaryStep u s) w) := by
  have HV := Lib.hid (show unaryStep u s = (.mk 9 ln cl 0 [] 0 [(pOperand u s).1], (pOperand u s).2) by unfold unaryStep; rw [hnow]; rfl)
  have hk : s.now.kind ≠ 0 := fun hk => by have := (now_ok h).1 hk; rw [hnow] at this; cases this
  have HP := Lib.hid hp; have HF := Lib.hid hf; have HR := Lib.hid h; have HNOW := Lib.hid hnow; have HK := Lib.hid hk
  have hRw := h.size
  clear hp hf h hnow hk
  go_enter Tryz.func147, Tryz.ntmps147
  go_wp2_with (fail)
  refine (now_any R g s _ (HR.out.alloc _)).mono ?_
  rintro e w1 ⟨rfl, hg1⟩
  rw [HNOW.out]
  have hL0 := laid2_of (t := ⟨kd, [33], nm, ln, cl⟩) (R := R) hg1 hRw
  have hz1 := hg1.size
  simp at hz1
  have HRW := Lib.hid (((HR.out.alloc _).more hg1).alloc (.cells (tokCells ⟨kd, [33], nm, ln, cl⟩) 132))
  have HL0 := Lib.hid hL0
  clear hg1 hL0
  unfold tokAgg
  go_wp2_with (fail)
  generalize hW : w1.alloc (.cells #[.int .i64 kd, .string ⟨#[33]⟩, .int .i64 nm, .int .i64 ln, .int .i64 cl] 132) = W
  have hL : Laid2 R w.heap.size w1.heap.size (tokCells ⟨kd, [33], nm, ln, cl⟩) w W := by rw [← hW]; exact HL0.out
  have hrW : Reads R g s W := by rw [← hW]; exact HRW.out
  have hsW : W.heap.size = w1.heap.size + 1 := by rw [← hW]; simp
  clear hW HL0 HRW
  obtain ⟨y0, y1, y2, y3, y4⟩ := five hL.tok
  obtain ⟨⟨z0, z1, z2, z3, z4, z5, z6⟩, f0, f1, f2, f3, f4, f5, f6⟩ := seven hL.res
  have HOP := Lib.hid (oper_in HP.out HF.out hl HK.out hd hrW hL hRw (by omega))
  clear hL hrW
  go_region_with ((go_at_call 148; refine (HOP.out _ (by repeat (first | exact grown_refl _ | apply grown_drew))).mono ?_; rintro e' w9 ⟨k5, l5, c5, n5, m5, o5, a5, b5, d5, rfl, hat5, hL5, hr5, hz5⟩; obtain ⟨y0, y1, y2, y3, y4⟩ := five hL5.tok; obtain ⟨⟨z0, z1, z2, z3, z4, z5, z6⟩, f0, f1, f2, f3, f4, f5, f6⟩ := seven hL5.res; have hlt9 : w.heap.size < w9.heap.size := (by omega); have hlt10 : w1.heap.size < w9.heap.size := (by omega); have HAT5 := Lib.hid hat5; have HL5 := Lib.hid hL5; have HR5 := Lib.hid hr5; clear hat5 hL5 hr5; unfold cells7))
  all_goals go_wp2_with (fail)
  all_goals
    refine bodyPost_ret (v := .agg (cells7 9 ln cl 0 [] 0 (.slice (some ⟨w9.heap.size, 0, none⟩) 1 1))) (by simp [results, Tryz.results147, go_sem, cells7, z0, z1, z2, z3, z4, z5, z6, hlt9]) rfl ?_
    rw [HV.out]
    refine kid_end (r := w.heap.size) (n0 := W.heap.size) (cs := cells7 k5 l5 c5 n5 m5 o5 (.slice a5 b5 d5)) ?_ HAT5.out (by omega) (Nat.le_refl _) hRw HL5.out.went HR5.out in0 in0
    repeat (first | with_reducible (refine Sets.set ?_ _ _) | with_reducible (refine Sets.drew ?_) | with_reducible (exact Sets.refl _ _))
end Go.Proofs.YtaomlahphlemdaaGreatDoor
