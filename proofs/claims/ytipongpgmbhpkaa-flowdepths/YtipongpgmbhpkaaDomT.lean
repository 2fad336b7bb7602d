/-
  flow: the graph in memory; Len, has; a region that appends to a row of rows.
-/
import Derived.Test.YtipongpgmbhpkaaDomS
namespace Go.Proofs.Ytipongpgmbhpkaa
open Go.ChangeShapes Go.WideShapes Go.ChangeAt Go.RowKit
open Go.Proofs.Ytipongpgmbhpkaa.RegInv
set_option linter.unusedVariables false

set_option maxRecDepth 100000 in
theorem len_any {w : World} {G n : Nat} {a : Option Addr} {cap : Nat} {iv : Value} (h : w.heap[G]? = some (.cells #[.slice a n cap, iv] 41 (0, 0))) :
    Calls Try.prog 17 #[.pointer (some ⟨G, 0, none⟩)] w fun e w' => e = .returned (.int .i64 n) ∧ w' = w := by
  obtain ⟨⟨c0, c1⟩, _, hl⟩ := tbox h
  clear h
  go_enter Try.func17, Try.ntmps17
  go_wp2_with (fail)
  go_ret
  exact ⟨rfl, rfl⟩
set_option maxRecDepth 100000 in
theorem has_any {w : World} {G n : Nat} {a : Option Addr} {cap : Nat} {iv : Value} (h : w.heap[G]? = some (.cells #[.slice a n cap, iv] 41 (0, 0))) (x : Int) :
    Calls Try.prog 18 #[.pointer (some ⟨G, 0, none⟩), .int .i64 x] w fun e w' => e = .returned (.bool (decide (0 ≤ x) && decide (x < (n : Int)))) ∧ w' = w := by
  have H := Lib.hid h
  clear h
  by_cases h0 : 0 ≤ x
  · have q0 : decide (0 ≤ x) = true := decide_eq_true h0
    rw [q0, Bool.true_and]
    go_enter Try.func18, Try.ntmps18
    go_wp2_with (go_at_call 17; refine (len_any H.out).mono ?_; rintro e w2 ⟨rfl, rfl⟩)
    go_ret
    exact ⟨rfl, rfl⟩
  · have q0 : decide (0 ≤ x) = false := decide_eq_false h0
    rw [q0, Bool.false_and]
    clear h0
    go_enter Try.func18, Try.ntmps18
    go_wp2_with (fail)
    go_ret
    exact ⟨rfl, rfl⟩
/-- A region in which a row of rows is appended to: b builds, a appends, s stores. -/
structure GX (b a s : Nat) (B : Nat) (w1 : World) (hv : Value) (xs : List Int) (x : Int) (gi v : Nat) (L : Nat → Bool) (g : Nat × Nat × Nat) (w : World) : Prop where
  held : L s = false → w1.grownBy w hv.ownBlock
  pre : L a = false → Below w1.heap.size w1 w
  made : L b = true → L a = false → w1.heap.size ≤ g.1 ∧ w.heap[g.1]? = some (.cells #[.int .i64 x] 3 (0, 0))
  done : L a = true → L s = false → w.ownsRow B 3 1 (.slice (some ⟨g.2.1, 0, none⟩) (xs.length + 1) g.2.2) (xs.length + 1) (xs.map iV ++ [.int .i64 x]) ∧ (hv.ownBlock = some g.2.1 ∨ w1.heap.size ≤ g.2.1)
  fin : L s = true → ∃ w2, w1.grownBy w2 hv.ownBlock ∧ w2.ownsRow B 3 1 (.slice (some ⟨g.2.1, 0, none⟩) (xs.length + 1) g.2.2) (xs.length + 1) (xs.map iV ++ [.int .i64 x]) ∧ (hv.ownBlock = some g.2.1 ∨ w1.heap.size ≤ g.2.1) ∧ w = w2.setCell ⟨gi, v, none⟩ (.slice (some ⟨g.2.1, 0, none⟩) (xs.length + 1) g.2.2)
section
variable {b a s B : Nat} {w1 : World} {hv : Value} {xs : List Int} {x : Int} {gi v : Nat} {L : Nat → Bool} {g : Nat × Nat × Nat} {w : World}
theorem GX.skip (h : GX b a s B w1 hv xs x gi v L g w) {i : Nat} (hi : b ≠ i ∧ a ≠ i ∧ s ≠ i) : GX b a s B w1 hv xs x gi v (setL L i) g w := by
  obtain ⟨h1, h2, h3, h4, h5⟩ := h
  obtain ⟨p, q, r⟩ := hi
  refine ⟨?_, ?_, ?_, ?_, ?_⟩
  · rw [setL_ne r]; exact h1
  · rw [setL_ne q]; exact h2
  · rw [setL_ne p, setL_ne q]; exact h3
  · rw [setL_ne q, setL_ne r]; exact h4
  · rw [setL_ne r]; exact h5
theorem GX.start (b a s B : Nat) (hv : Value) (xs : List Int) (x : Int) (gi v : Nat) (g : Nat × Nat × Nat) {w1 w : World} {L : Nat → Bool} (hLb : L b = false) (hLa : L a = false) (hLs : L s = false) (hw : w.os = w1.os ∧ w.tape = w1.tape ∧ w.output = w1.output ∧ w.heap = w1.heap) : GX b a s B w1 hv xs x gi v L g w := by
  have hb : Below w1.heap.size w1 w := ⟨hw.1, hw.2.1, hw.2.2.1, by rw [hw.2.2.2]; exact Nat.le_refl _, fun _ _ => by rw [hw.2.2.2]⟩
  exact ⟨fun _ => grown_of_below _ hb, fun _ => hb, fun c => (by rw [hLb] at c; cases c), fun c => (by rw [hLa] at c; cases c), fun c => (by rw [hLs] at c; cases c)⟩
theorem GX.build (h : GX b a s B w1 hv xs x gi v L g w) (hba : b ≠ a) (hbs : b ≠ s) (ha : L a = false) (hs : L s = false) : GX b a s B w1 hv xs x gi v (setL L b) (w.heap.size, g.2.1, g.2.2) (w.alloc (.cells #[.int .i64 x] 3 (0, 0))) := by
  have e20 : setL L b a = false := by rw [setL_ne (Ne.symm hba)]; exact ha
  have e22 : setL L b s = false := by rw [setL_ne (Ne.symm hbs)]; exact hs
  refine ⟨fun _ => grown_then (h.held hs) ((Below.refl _ _).alloc (Nat.le_refl _) _), fun _ => (h.pre ha).alloc (h.pre ha).size _, fun _ _ => ⟨(h.pre ha).size, alloc_at _ _ _ rfl⟩, fun c => (by rw [e20] at c; cases c), fun c => by rw [e22] at c; cases c⟩
theorem GX.append {w' : World} (h : GX b a s B w1 hv xs x gi v L g w) (has : a ≠ s) (ha : L a = false) (hs : L s = false) {q c : Nat} (hown : w'.ownsRow B 3 1 (.slice (some ⟨q, 0, none⟩) (xs.length + 1) c) (xs.length + 1) (xs.map iV ++ [.int .i64 x])) (hg : w.grownBy w' hv.ownBlock) (hat : hv.ownBlock = some q ∨ q = w.heap.size) : GX b a s B w1 hv xs x gi v (setL L a) (g.1, q, c) w' := by
  have e22 : setL L a s = false := by rw [setL_ne (Ne.symm has)]; exact hs
  refine ⟨fun _ => grown_after (h.pre ha) hg, fun d => (by rw [setL_eq] at d; cases d), fun _ d => (by rw [setL_eq] at d; cases d), fun _ _ => ⟨hown, ?_⟩, fun d => by rw [e22] at d; cases d⟩
  rcases hat with hat | hat
  · exact .inl hat
  · exact .inr (by show _ ≤ q; rw [hat]; exact (h.pre ha).size)
theorem GX.store (h : GX b a s B w1 hv xs x gi v L g w) (has : a ≠ s) (ha : L a = true) (hs : L s = false) : GX b a s B w1 hv xs x gi v (setL L s) g (w.setCell ⟨gi, v, none⟩ (.slice (some ⟨g.2.1, 0, none⟩) (xs.length + 1) g.2.2)) := by
  have e20 : setL L s a = true := by rw [setL_ne has]; exact ha
  refine ⟨fun c => (by rw [setL_eq] at c; cases c), fun c => (by rw [e20] at c; cases c), fun _ c => (by rw [e20] at c; cases c), fun _ c => (by rw [setL_eq] at c; cases c), fun _ => ⟨w, h.held hs, (h.done ha hs).1, (h.done ha hs).2, rfl⟩⟩
end
/-! ### the graph -/
structure GrAt (B : Nat) (w : World) (G : Nat) (ov iv : Value) (os js : List Value) (g : Gr) : Prop where
  box : w.heap[G]? = some (.cells #[ov, iv] 41 (0, 0))
  low : B ≤ G
  ho : w.ownsRow B 35 1 ov os.length os
  hj : w.ownsRow B 35 1 iv js.length js
  lo : os.length = g.outs.length
  lj : js.length = g.ins.length
  bag : Bag B w (os.zip g.outs ++ js.zip g.ins)
  ne : ∀ q, ov.ownBlock = some q → iv.ownBlock ≠ some q
theorem GrAt.below {B : Nat} {w w' : World} {G : Nat} {ov iv : Value} {os js : List Value} {g : Gr} (h : GrAt B w G ov iv os js g) (hb : Below w.heap.size w w') : GrAt B w' G ov iv os js g :=
  ⟨(hb.block G (lt_heap h.box)).trans h.box, h.low, own_keep h.ho (fun q hq => hb.block q (h.ho.lt q hq).2), own_keep h.hj (fun q hq => hb.block q (h.hj.lt q hq).2), h.lo, h.lj, h.bag.below hb, h.ne⟩
theorem GrAt.orow {B : Nat} {w : World} {G : Nat} {ov iv : Value} {os js : List Value} {g : Gr} (h : GrAt B w G ov iv os js g) {v : Nat} {h0 : Value} {xs : List Int} (hh : os[v]? = some h0) (hx : g.outs[v]? = some xs) : (os.zip g.outs ++ js.zip g.ins)[v]? = some (h0, xs) := by
  have hz : (os.zip g.outs)[v]? = some (h0, xs) := (List.getElem?_zip_eq_some (z := (h0, xs))).2 ⟨hh, hx⟩
  rw [List.getElem?_append_left (List.getElem?_eq_some_iff.1 hz).1]; exact hz
theorem GrAt.jrow {B : Nat} {w : World} {G : Nat} {ov iv : Value} {os js : List Value} {g : Gr} (h : GrAt B w G ov iv os js g) {v : Nat} {h0 : Value} {xs : List Int} (hh : js[v]? = some h0) (hx : g.ins[v]? = some xs) : (os.zip g.outs ++ js.zip g.ins)[(os.zip g.outs).length + v]? = some (h0, xs) := by
  have hz : (js.zip g.ins)[v]? = some (h0, xs) := (List.getElem?_zip_eq_some (z := (h0, xs))).2 ⟨hh, hx⟩
  rw [List.getElem?_append_right (by omega), Nat.add_sub_cancel_left]; exact hz
theorem GrAt.appout {B : Nat} {w w' : World} {G g' cap' og n ocap v : Nat} {iv h0 : Value} {os js : List Value} {g : Gr} {xs : List Int} (h : GrAt B w G (.slice (some ⟨og, 0, none⟩) n ocap) iv os js g) (hn : os.length = n) (hh : os[v]? = some h0) (hx : g.outs[v]? = some xs) (x : Int)
    (hown : w'.ownsRow B 3 1 (.slice (some ⟨g', 0, none⟩) (xs.length + 1) cap') (xs.length + 1) (xs.map iV ++ [.int .i64 x])) (hg : w.grownBy w' h0.ownBlock) (hat : h0.ownBlock = some g' ∨ w.heap.size ≤ g') :
    GrAt B (w'.setCell ⟨og, v, none⟩ (.slice (some ⟨g', 0, none⟩) (xs.length + 1) cap')) G (.slice (some ⟨og, 0, none⟩) n ocap) iv (os.set v (.slice (some ⟨g', 0, none⟩) (xs.length + 1) cap')) js ⟨g.outs.set v (xs ++ [x]), g.ins⟩ := by
  subst hn
  have hvl : v < os.length := (List.getElem?_eq_some_iff.1 hh).1
  have hk := h.orow hh hx
  have hr := h.bag.row _ _ _ hk
  have hbox := (hg.block G (lt_heap h.box) (fun e => h.bag.ne_box h.box (by decide) hk e.symm rfl)).trans h.box
  have hho : w'.ownsRow B 35 1 (.slice (some ⟨og, 0, none⟩) os.length ocap) os.length os := own_keep h.ho (fun q hq => hg.block q (h.ho.lt q hq).2 (fun e => own_apart h.ho hr (by decide) hq e.symm))
  have hhj : w'.ownsRow B 35 1 iv js.length js := own_keep h.hj (fun q hq => hg.block q (h.hj.lt q hq).2 (fun e => own_apart h.hj hr (by decide) hq e.symm))
  have hbag := h.bag.app hk rfl x hown hg hat
  have hzl : v < (os.zip g.outs).length := by rw [List.length_zip, ← h.lo]; omega
  rw [List.set_append_left _ _ hzl, ← zip_set'] at hbag
  obtain ⟨cs, hcs⟩ := own_type hho (q := og) rfl
  have h9 : G ≠ og := ne_type hho hbox (by decide) rfl
  refine ⟨(Below.heap_setCell _ _ _ _ h9).trans hbox, h.low, ?_, own_keep hhj (fun q hq => Below.heap_setCell _ _ _ _ ?_), by simp [h.lo], h.lj, hbag.other hcs (by decide) v _, h.ne⟩
  · rw [List.length_set]; exact own_put hho hvl _
  · intro e
    exact h.ne og rfl (hq.trans (congrArg some e))
theorem GrAt.appin {B : Nat} {w w' : World} {G g' cap' ig n icap v : Nat} {ov h0 : Value} {os js : List Value} {g : Gr} {xs : List Int} (h : GrAt B w G ov (.slice (some ⟨ig, 0, none⟩) n icap) os js g) (hn : js.length = n) (hh : js[v]? = some h0) (hx : g.ins[v]? = some xs) (x : Int)
    (hown : w'.ownsRow B 3 1 (.slice (some ⟨g', 0, none⟩) (xs.length + 1) cap') (xs.length + 1) (xs.map iV ++ [.int .i64 x])) (hg : w.grownBy w' h0.ownBlock) (hat : h0.ownBlock = some g' ∨ w.heap.size ≤ g') :
    GrAt B (w'.setCell ⟨ig, v, none⟩ (.slice (some ⟨g', 0, none⟩) (xs.length + 1) cap')) G ov (.slice (some ⟨ig, 0, none⟩) n icap) os (js.set v (.slice (some ⟨g', 0, none⟩) (xs.length + 1) cap')) ⟨g.outs, g.ins.set v (xs ++ [x])⟩ := by
  subst hn
  have hvl : v < js.length := (List.getElem?_eq_some_iff.1 hh).1
  have hk := h.jrow hh hx
  have hr := h.bag.row _ _ _ hk
  have hbox := (hg.block G (lt_heap h.box) (fun e => h.bag.ne_box h.box (by decide) hk e.symm rfl)).trans h.box
  have hho : w'.ownsRow B 35 1 ov os.length os := own_keep h.ho (fun q hq => hg.block q (h.ho.lt q hq).2 (fun e => own_apart h.ho hr (by decide) hq e.symm))
  have hhj : w'.ownsRow B 35 1 (.slice (some ⟨ig, 0, none⟩) js.length icap) js.length js := own_keep h.hj (fun q hq => hg.block q (h.hj.lt q hq).2 (fun e => own_apart h.hj hr (by decide) hq e.symm))
  have hbag := h.bag.app hk rfl x hown hg hat
  rw [List.set_append_right _ _ (by omega), Nat.add_sub_cancel_left, ← zip_set'] at hbag
  obtain ⟨cs, hcs⟩ := own_type hhj (q := ig) rfl
  have h9 : G ≠ ig := ne_type hhj hbox (by decide) rfl
  refine ⟨(Below.heap_setCell _ _ _ _ h9).trans hbox, h.low, own_keep hho (fun q hq => Below.heap_setCell _ _ _ _ ?_), ?_, h.lo, by simp [h.lj], hbag.other hcs (by decide) v _, h.ne⟩
  · intro e
    exact h.ne ig (hq.trans (congrArg some e)) rfl
  · rw [List.length_set]; exact own_put hhj hvl _
/-! ### a function's blocks, that are read alone -/
structure EdgesAt (B : Nat) (w : World) (v : Value) (row : List Int) : Prop where
  form : ∃ a c, v = .slice a row.length c ∧ (row ≠ [] → ∃ b off, a = some ⟨b, off, none⟩ ∧ b < B ∧ b < w.heap.size ∧ ∀ k x, row[k]? = some x → ∃ ua ul uc, w.cell? ⟨b, off + k * 2, none⟩ = some (.int .i64 x) ∧ w.cell? ⟨b, off + k * 2 + 1, none⟩ = some (.slice ua ul uc))
theorem EdgesAt.below {B : Nat} {w w' : World} {v : Value} {row : List Int} (h : EdgesAt B w v row) (hb : Below B w w') : EdgesAt B w' v row := by
  obtain ⟨a, c, rfl, h1⟩ := h.form
  refine ⟨a, c, rfl, fun hne => ?_⟩
  obtain ⟨b, off, h2, h3, h4, h5⟩ := h1 hne
  refine ⟨b, off, h2, h3, Nat.lt_of_lt_of_le h4 hb.size, fun k x hx => ?_⟩
  obtain ⟨ua, ul, uc, h6, h7⟩ := h5 k x hx
  exact ⟨ua, ul, uc, (hb.cell (p := ⟨b, off + k * 2, none⟩) h3).trans h6, (hb.cell (p := ⟨b, off + k * 2 + 1, none⟩) h3).trans h7⟩
structure BlocksAt (B : Nat) (w : World) (v : Value) (ways : List (List Int)) : Prop where
  form : ∃ a c, v = .slice a ways.length c ∧ (ways ≠ [] → ∃ b off, a = some ⟨b, off, none⟩ ∧ b < B ∧ b < w.heap.size ∧ ∀ i row, ways[i]? = some row → ∃ a0 l0 k0 a1 l1 k1 x2 x3 ev x5, w.cell? ⟨b, off + i * 6, none⟩ = some (.slice a0 l0 k0) ∧ w.cell? ⟨b, off + i * 6 + 1, none⟩ = some (.slice a1 l1 k1) ∧ w.cell? ⟨b, off + i * 6 + 2, none⟩ = some (.int .i64 x2) ∧ w.cell? ⟨b, off + i * 6 + 3, none⟩ = some (.int .i64 x3) ∧ w.cell? ⟨b, off + i * 6 + 4, none⟩ = some ev ∧ w.cell? ⟨b, off + i * 6 + 5, none⟩ = some (.int .i64 x5) ∧ EdgesAt B w ev row)
theorem BlocksAt.below {B : Nat} {w w' : World} {v : Value} {ways : List (List Int)} (h : BlocksAt B w v ways) (hb : Below B w w') : BlocksAt B w' v ways := by
  obtain ⟨a, c, rfl, h1⟩ := h.form
  refine ⟨a, c, rfl, fun hne => ?_⟩
  obtain ⟨b, off, h2, h3, h4, h5⟩ := h1 hne
  refine ⟨b, off, h2, h3, Nat.lt_of_lt_of_le h4 hb.size, fun i row hx => ?_⟩
  obtain ⟨a0, l0, k0, a1, l1, k1, x2, x3, ev, x5, p0, p1, p2, p3, p4, p5, p6⟩ := h5 i row hx
  exact ⟨a0, l0, k0, a1, l1, k1, x2, x3, ev, x5, (hb.cell (p := ⟨b, off + i * 6, none⟩) h3).trans p0, (hb.cell (p := ⟨b, off + i * 6 + 1, none⟩) h3).trans p1, (hb.cell (p := ⟨b, off + i * 6 + 2, none⟩) h3).trans p2, (hb.cell (p := ⟨b, off + i * 6 + 3, none⟩) h3).trans p3, (hb.cell (p := ⟨b, off + i * 6 + 4, none⟩) h3).trans p4, (hb.cell (p := ⟨b, off + i * 6 + 5, none⟩) h3).trans p5, p6.below hb⟩
end Go.Proofs.Ytipongpgmbhpkaa
