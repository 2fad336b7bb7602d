/-
  The parser: arguments.
-/
import Derived.Test.YtgnnendcgbijnaaDoorParK
import Derived.Deep.AppendLies
namespace Go.Proofs.YtgnnendcgbijnaaDoor
open Go.ChangeShapes Go.WideShapes Go.ChangeAt Go.RowKit
set_option linter.unusedVariables false

/-- Expressions, each with its seven cells. -/
def AtAll (w : World) (S : Nat → Prop) : List Ex → List (Array Value) → Prop
  | [], [] => True
  | e :: r, c :: cs => e.At w S c ∧ AtAll w S r cs
  | _, _ => False
theorem AtAll.keep {w w' : World} {S S' : Nat → Prop} (hS : ∀ g, S g → g < w.heap.size → S' g) (hk : ∀ g, S g → g < w.heap.size → ∀ o, w'.cell? ⟨g, o, none⟩ = w.cell? ⟨g, o, none⟩) : ∀ {es : List Ex} {cs : List (Array Value)}, AtAll w S es cs → AtAll w' S' es cs
  | [], [], _ => trivial
  | e :: r, c :: cs, h => ⟨Ex.At.keep hS hk e c h.1, AtAll.keep hS hk h.2⟩
theorem AtAll.snoc {w : World} {S : Nat → Prop} {e : Ex} {c : Array Value} (he : e.At w S c) : ∀ {es : List Ex} {cs : List (Array Value)}, AtAll w S es cs → AtAll w S (es ++ [e]) (cs ++ [c])
  | [], [], _ => ⟨he, trivial⟩
  | e :: r, c :: cs, h => ⟨h.1, AtAll.snoc he h.2⟩
theorem AtAll.length {w : World} {S : Nat → Prop} : ∀ {es : List Ex} {cs : List (Array Value)}, AtAll w S es cs → (cs.flatMap Array.toList).length = es.length * 7
  | [], [], _ => rfl
  | e :: r, c :: cs, h => by
    obtain ⟨k, l, c', n, m, o, x, y, z, rfl⟩ := h.1.cells
    rw [List.flatMap_cons, List.length_append, AtAll.length h.2, List.length_cons]
    show 7 + r.length * 7 = _
    omega
theorem AtAll.row {w : World} {S : Nat → Prop} {g : Nat} : ∀ {es : List Ex} {cs : List (Array Value)} (o : Nat), AtAll w S es cs → (∀ j u, (cs.flatMap Array.toList)[j]? = some u → w.cell? ⟨g, o + j, none⟩ = some u) → Ex.Row w S g o es
  | [], [], o, _, _ => by unfold Ex.Row; trivial
  | e :: r, c :: cs, o, h, hc => by
    unfold Ex.Row
    obtain ⟨k, l, c', n, m, op, x, y, z, rfl⟩ := h.1.cells
    have hl : (cells7 k l c' n m op (.slice x y z)).toList.length = 7 := rfl
    refine ⟨⟨_, h.1, fun j hj => ?_⟩, AtAll.row (o + 7) h.2 fun j u hu => ?_⟩
    · have hs : (cells7 k l c' n m op (.slice x y z))[j]? = (cells7 k l c' n m op (.slice x y z)).toList[j]? := by simp
      have hlt : j < (cells7 k l c' n m op (.slice x y z)).toList.length := by omega
      rw [hs, List.getElem?_eq_getElem hlt]
      refine hc j _ ?_
      rw [List.flatMap_cons, List.getElem?_append_left hlt, List.getElem?_eq_getElem hlt]
    · have := hc (7 + j) u (by rw [List.flatMap_cons, List.getElem?_append_right (by omega), hl, Nat.add_sub_cancel_left]; exact hu)
      rwa [← Nat.add_assoc] at this

/-- Kids, as a slice of expressions. -/
def KidsAt (w : World) (S : Nat → Prop) (es : List Ex) (v : Value) : Prop :=
  (es = [] ∧ ∃ a cap, v = .slice a 0 cap) ∨ (es ≠ [] ∧ ∃ g o cap, v = .slice (some ⟨g, o, none⟩) es.length cap ∧ S g ∧ es.length ≤ cap ∧ es.length ≤ 4611686018427387904 ∧ Ex.Row w S g o es)
theorem at_kids {w : World} {S : Nat → Prop} {es : List Ex} {v : Value} (kind line col num : Int) (name : List UInt8) (op : Int) (hn : InI64 num) (ho : InI64 op) (h : KidsAt w S es v) (h4 : kind ≠ 4 := by decide) : (Ex.mk kind line col num name op es).At w S (cells7 kind line col num name op v) := by
  unfold Ex.At; exact ⟨hn, ho, v, rfl, .inl h4, h⟩
theorem KidsAt.keep {w w' : World} {S S' : Nat → Prop} (hS : ∀ g, S g → g < w.heap.size → S' g) (hk : ∀ g, S g → g < w.heap.size → ∀ o, w'.cell? ⟨g, o, none⟩ = w.cell? ⟨g, o, none⟩) {es : List Ex} {v : Value} (h : KidsAt w S es v) : KidsAt w' S' es v := by
  rcases h with h | ⟨hne, g, o, cap, rfl, hg, h1, h2, h3⟩
  · exact .inl h
  · have hlt : g < w.heap.size := by
      obtain ⟨e, r, rfl⟩ := List.exists_cons_of_ne_nil hne
      exact h3.lt
    exact .inr ⟨hne, g, o, cap, rfl, hS g hg hlt, h1, h2, Ex.Row.keep hS hk g hg hlt o es h3⟩

def argsLoop (ex : Par) : Nat → List Ex → St → List Ex × St
  | 0, es, s => (es, s)
  | k + 1, es, s => if s.sees [[44]] then argsLoop ex k (es ++ [(ex s.next).1]) (ex s.next).2 else (es, s)
def pArgs (ex : Par) (s : St) : List Ex × St := argsLoop ex (ex s).2.left.length [(ex s).1] (ex s).2
theorem argsLoop_fine {n : Nat} {part : Par} (hf : Fine n part) : ∀ (k : Nat) (es : List Ex) (s : St), s.left.length ≤ n → (argsLoop part k es s).2.deep = s.deep ∧ (argsLoop part k es s).2.left.length ≤ s.left.length
  | 0, e, s, h => ⟨rfl, Nat.le_refl _⟩
  | k + 1, e, s, h => by
    rw [argsLoop]
    have h1 := s.next_fine
    have h2 := hf s.next (by omega)
    split
    · have h3 := argsLoop_fine hf k (e ++ [(part s.next).1]) (part s.next).2 (by omega)
      exact ⟨by rw [h3.1, h2.1, h1.1], by omega⟩
    · exact ⟨rfl, Nat.le_refl _⟩
theorem args_fine {n : Nat} {part : Par} (hf : Fine n part) (s : St) (h : s.left.length ≤ n) : (pArgs part s).2.deep = s.deep ∧ (pArgs part s).2.left.length ≤ s.left.length := by
  have h1 := hf s h
  have h2 := argsLoop_fine hf (part s).2.left.length [(part s).1] (part s).2 (by omega)
  exact ⟨by unfold pArgs; rw [h2.1, h1.1], by unfold pArgs; omega⟩

theorem infoExpr : (Tryd.prog.info? 51).map (fun i => (i.zero, i.size, i.bytes)) = some (some (.agg zero7), 7, 80) := by kernel_rfl
theorem seven_one (a b c d e : Int) (x : ByteArray) (p : Option Addr) (q r : Nat) : ∀ u ∈ [Value.int .i64 a, .int .i64 b, .int .i64 c, .int .i64 d, .string x, .int .i64 e, .slice p q r], u.oneCell' = true := by
  intro u hu
  simp only [List.mem_cons, List.not_mem_nil, or_false] at hu
  rcases hu with rfl | rfl | rfl | rfl | rfl | rfl | rfl <;> rfl

/-- What a round of arguments begins with: the list so far, in a row of its own. -/
structure ArgRow (R g : Nat) (N : Nat) (part : Par) (goal : List Ex × St) (d : Int) (out : Value) (w0 w : World) : Prop where
  went : Went R w0 w
  now : ∃ (k b cap : Nat) (es : List Ex) (cs : List (Array Value)) (s : St), out = .slice (some ⟨b, 0, none⟩) es.length cap ∧ w0.heap.size ≤ b ∧ R < w0.heap.size ∧ w.ownsRow w0.heap.size 51 7 out es.length (cs.flatMap Array.toList) ∧ AtAll w (fun q => w0.heap.size ≤ q ∧ q ≠ b) es cs ∧ Reads R g s w ∧
    s.left.length ≤ k ∧ s.left.length ≤ N ∧ es.length + s.left.length ≤ N + 1 ∧ es ≠ [] ∧ s.deep = d ∧ argsLoop part k es s = goal

/-- It answers a list of expressions in new memory. -/
def ListPost (R g : Nat) (p : List Ex × St) (w : World) (e : Ending) (w' : World) : Prop := ∃ v, e = .returned v ∧ KidsAt w' (w.heap.size ≤ ·) p.1 v ∧ Went R w w' ∧ Reads R g p.2 w'

theorem went_row {R b : Nat} {w w3 w4 : World} (h : Went R w w3) (hg : w3.grownBy w4 (some b)) (hb : w.heap.size ≤ b) : Went R w w4 :=
  ⟨hg.os.trans h.os, hg.tape.trans h.tape, hg.output.trans h.output, Nat.le_trans h.size hg.size, fun k hk hne => (hg.block k (Nat.lt_of_lt_of_le hk h.size) (by simp; omega)).trans (h.block k hk hne)⟩
theorem Reads.row' {R g b : Nat} {s : St} {w w' : World} (h : Reads R g s w) (hg : w.grownBy w' (some b)) (hb : R < b) : Reads R g s w' := by
  have h1 := h.lt; have h2 := h.low; have h3 := h.size
  obtain ⟨o, cap, a1, a2, a3⟩ := h.row
  exact ⟨h.lt, ⟨o, cap, (hg.block R h3 (by simp; omega)).trans a1, a2, a3.keep fun p => World.cell?_of_block (hg.block g (by omega) (by simp; omega))⟩, h.last, h.len, h.deep, h.low, h.signs.keep hg.size fun p => World.cell?_of_block (hg.block 1 (by have := h.signs.1; omega) (by simp; omega))⟩

set_option maxHeartbeats 2000000 in
set_option maxRecDepth 100000 in
theorem args_any {R g n : Nat} {part : Par} (hp : ExprOk R g n part) (hf : Fine n (pExpr part)) (s : St) (w : World) (hl : s.left.length ≤ n) (hd : s.deep + 2 * s.left.length + 1 ≤ 300000) (h : Reads R g s w) :
    Calls Tryd.prog 96 #[.pointer (some ⟨R, 0, none⟩)] w (ListPost R g (pArgs (pExpr part) s) w) := by
  obtain ⟨i0, hi, hz⟩ := Option.map_eq_some_iff.1 infoExpr
  obtain ⟨hz0, hz1, hz2⟩ : i0.zero = some (.agg zero7) ∧ i0.size = 7 ∧ i0.bytes = 80 := by simpa using hz
  have HI := Lib.hid hi; have HZ0 := Lib.hid hz0; have HZ1 := Lib.hid hz1; have HZ2 := Lib.hid hz2
  have HP := Lib.hid hp; have HF := Lib.hid hf; have HR := Lib.hid h
  have hRw := h.size
  have hlen := h.len
  clear hp hf h hz hi hz0 hz1 hz2
  go_enter Tryd.func96, Tryd.ntmps96
  go_wp2_with (fail)
  refine (HP.out s _ hl hd HR.out).mono ?_
  rintro e w1 ⟨cs, rfl, hat, hw1, hr1⟩
  obtain ⟨k3, l3, c3, n3, m3, o3, a3, b3, d3, rfl⟩ := hat.cells
  have hz1 := hw1.size
  have hf1 := HF.out s hl
  have HAR := Lib.hid (show ArgRow R g s.left.length (pExpr part) (pArgs (pExpr part) s) s.deep (.slice (some ⟨w1.heap.size, 0, none⟩) 1 1) w (w1.alloc (.cells (cells7 k3 l3 c3 n3 m3 o3 (.slice a3 b3 d3)) 51)) from
    ⟨went_alloc hw1 _, (pExpr part s).2.left.length, w1.heap.size, 1, [(pExpr part s).1], [cells7 k3 l3 c3 n3 m3 o3 (.slice a3 b3 d3)], (pExpr part s).2, rfl, hz1, hRw,
      ⟨rfl, .inr ⟨w1.heap.size, 1, _, rfl, hz1, heap_alloc_new _ _, Nat.le_refl _, by unfold maxLen; omega, rfl, rfl⟩⟩,
      ⟨Ex.At.keep (fun q hq hlt => ⟨hq, by omega⟩) (fun q _ hlt o => World.cell?_of_block (Below.heap_alloc _ _ _ hlt)) _ _ hat, trivial⟩, hr1.alloc _, Nat.le_refl _, hf1.2, by simp; omega, by simp, hf1.1, rfl⟩)
  clear hat hw1 hr1 hf1
  unfold cells7
  go_wp2_with (fail)
  go_loopw [3] (fun out wr => ArgRow R g s.left.length (pExpr part) (pArgs (pExpr part) s) s.deep out w wr) (fun _ wr => lenOf wr R)
  case atStart => exact HAR.out
  case round =>
    obtain ⟨hwt, k, b, cap, es, css, s2, rfl, hb0, hRw0, hown, hall, hrd, hlk, hln, hes, hne, hdd, hgo⟩ := hrel
    have HWT := Lib.hid hwt; have HOWN := Lib.hid hown; have HALL := Lib.hid hall; have HRD := Lib.hid hrd; have HGO := Lib.hid hgo; have HDD := Lib.hid hdd; have HNE := Lib.hid hne
    have hl1 : 1 ≤ s2.left.length := by have := hrd.last.ne; cases hq : s2.left with | nil => exact absurd hq this | cons => simp
    have hbw := (hown.lt b rfl).2
    clear hwt hown hall hrd hgo hdd hne HAR
    obtain ⟨k, rfl⟩ : ∃ q, k = q + 1 := ⟨k - 1, by omega⟩
    go_wp2_with (fail)
    refine (skip_any R g s2 [44] _ HRD.out).mono ?_
    rintro e' w2 ⟨rfl, hw2, hr2⟩
    have hsz2 := hw2.size
    have HW2 := Lib.hid hw2; have HR2 := Lib.hid hr2
    clear hw2 hr2
    cases hs : s2.sees [[44]]
    · have HGE := Lib.hid (show pArgs (pExpr part) s = (es, s2) by rw [← HGO.out, argsLoop, hs]; rfl)
      have HSK := Lib.hid (show s2.skip [44] = s2 by unfold St.skip; rw [hs]; rfl)
      clear hs
      go_wp2_with (fail)
      go_ret
      rw [HGE.out]
      have hr2 : Reads R g s2 w2 := by rw [← HSK.out]; exact HR2.out
      have hown2 := HOWN.out.kept HW2.out (.inr (by simp [Value.ownBlock]; omega))
      refine ⟨_, rfl, .inr ⟨HNE.out, b, 0, cap, rfl, hb0, ?_, by show es.length ≤ 4611686018427387904; omega, ?_⟩, HWT.out.trans HW2.out, hr2⟩
      · rcases hown2.2 with ⟨hv, _⟩ | ⟨g', cap', cur, hv, _, _, hle, _⟩
        · cases hv
        · cases hv; exact hle
      · have hall2 : AtAll w2 (w.heap.size ≤ ·) es css := HALL.out.keep (fun q h _ => h.1) (fun q h hlt o => World.cell?_of_block (HW2.out.block q hlt (by simp; omega)))
        exact hall2.row 0 fun j u hu => by have := hown2.cells (g := b) rfl j u hu; rwa [Go.WideShapes.add_plain] at this
    · have hnl := next_len HRD.out hs (by decide)
      have HGE := Lib.hid (show argsLoop (pExpr part) k (es ++ [(pExpr part s2.next).1]) (pExpr part s2.next).2 = pArgs (pExpr part) s by rw [← HGO.out, argsLoop, hs]; rfl)
      have HSK := Lib.hid (show s2.skip [44] = s2.next by unfold St.skip; rw [hs]; rfl)
      clear hs
      go_wp2_with (fail)
      have hf2 := HF.out s2.next (by omega)
      refine (HP.out s2.next _ (by omega) (by have := HDD.out; omega) (by rw [← HSK.out]; exact HR2.out)).mono ?_
      rintro e' w3 ⟨cs3, rfl, hat3, hw3, hr3⟩
      obtain ⟨k4, l4, c4, n4, m4, o4, a4, b4, d4, rfl⟩ := hat3.cells
      have hsz3 := hw3.size
      have hwb := HW2.out.trans hw3
      have hown3 := HOWN.out.kept hwb (.inr (by simp [Value.ownBlock]; omega))
      have HWB := Lib.hid hwb; have HOWN3 := Lib.hid hown3; have HAT3 := Lib.hid hat3; have HR3 := Lib.hid hr3; have HF2 := Lib.hid hf2; have HNL := Lib.hid hnl; have HW3 := Lib.hid hw3
      clear hwb hown3 hat3 hr3 hw3
      unfold cells7
      go_wp2_with (first | (at_builtin; refine wpList_append_lies _ rfl _ _ 43 rfl w.heap.size 51 i0 (.agg zero7) 7 80 Tryd.underlying43 HI.out HZ0.out HZ1.out HZ2.out rfl (by decide) _ es.length (css.flatMap Array.toList) rfl ?hown ⟨w3.heap.size, 0, none⟩ 1 1 [.int .i64 k4, .int .i64 l4, .int .i64 c4, .int .i64 n4, .string ⟨m4.toArray⟩, .int .i64 o4, .slice a4 b4 d4] rfl rfl ?hnews (seven_one _ _ _ _ _ _ _ _ _) (by decide) ?h63 ?hby ?hba (w3.heap.size + 1) ?hH ?_))
      case hown => exact HOWN3.out.alloc _
      case hnews => exact cells_at _ [.int .i64 k4, .int .i64 l4, .int .i64 c4, .int .i64 n4, .string ⟨m4.toArray⟩, .int .i64 o4, .slice a4 b4 d4] _ _ rfl
      case h63 => unfold maxLen; omega
      case hby => omega
      case hba => simp; omega
      case hH => simp
      intro b2 cap2 w4 hown4 hgrow4 hat4 hlt4
      have hb2 : b2 = b ∨ b2 = w3.heap.size + 1 := by rcases hat4 with h | h; exact .inl (by simpa [Value.ownBlock] using h.symm); exact .inr h
      have hgr : (w3.alloc (.cells (cells7 k4 l4 c4 n4 m4 o4 (.slice a4 b4 d4)) 51)).grownBy w4 (some b) := hgrow4
      have hga : w3.grownBy (w3.alloc (.cells (cells7 k4 l4 c4 n4 m4 o4 (.slice a4 b4 d4)) 51)) none := grown_alloc _ _
      have hrd4 : Reads R g (pExpr part s2.next).2 w4 := (HR3.out.alloc _).row' hgr (by omega)
      have hgoal : ArgRow R g s.left.length (pExpr part) (pArgs (pExpr part) s) s.deep (.slice (some ⟨b2, 0, none⟩) (es.length + 1) cap2) w w4 := by
        refine ⟨went_row ((HWT.out.trans HWB.out).trans (went_none hga)) hgr hb0, k, b2, cap2, es ++ [(pExpr part s2.next).1], css ++ [cells7 k4 l4 c4 n4 m4 o4 (.slice a4 b4 d4)], (pExpr part s2.next).2, by simp, by omega, hRw, ?_, ?_, hrd4, by have := HF2.out; have := HNL.out; omega, by have := HF2.out; have := HNL.out; omega, by have := HF2.out; have := HNL.out; simp; omega, by simp, by rw [HF2.out.1, HNL.out.2]; exact HDD.out, HGE.out⟩
        · have e1 : (css ++ [cells7 k4 l4 c4 n4 m4 o4 (.slice a4 b4 d4)]).flatMap Array.toList = css.flatMap Array.toList ++ [.int .i64 k4, .int .i64 l4, .int .i64 c4, .int .i64 n4, .string ⟨m4.toArray⟩, .int .i64 o4, .slice a4 b4 d4] := by
            rw [List.flatMap_append]; rfl
          rw [e1, List.length_append]
          exact hown4
        · refine AtAll.snoc ?_ ?_
          · refine Ex.At.keep (fun q hq hlt => ⟨by have : w2.heap.size ≤ q := hq; have := HWT.out.size; omega, by have : w2.heap.size ≤ q := hq; omega⟩) (fun q hq hlt o => ?_) _ _ HAT3.out
            have hq' : w2.heap.size ≤ q := hq
            rw [World.cell?_of_block (hgr.block q (by simp; omega) (by simp; omega)), World.cell?_of_block (hga.block q hlt (by simp))]
          · refine HALL.out.keep (fun q hq hlt => ⟨hq.1, by omega⟩) (fun q hq hlt o => ?_)
            rw [World.cell?_of_block (hgr.block q (by simp; omega) (by simp; omega)), World.cell?_of_block (hga.block q (by omega) (by simp)), World.cell?_of_block (HWB.out.block q hlt (by simp; omega))]
      have hlen4 : lenOf w4 R = (pExpr part s2.next).2.left.length := lenOf_reads hrd4
      have HGOAL := Lib.hid hgoal; have HL4 := Lib.hid hlen4
      clear hgoal hlen4 hrd4 hga hgr hgrow4 hown4 hat4 hb2
      go_wp2_with (fail)
      go_roundw
      case rel => exact HGOAL.out
      case measure => rw [HL4.out, lenOf_reads HRD.out]; have := HF2.out; have := HNL.out; omega
end Go.Proofs.YtgnnendcgbijnaaDoor
