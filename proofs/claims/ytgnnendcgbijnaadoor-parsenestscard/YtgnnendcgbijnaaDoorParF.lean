/-
  The parser: parts with marks between them: what is common to all chains.
-/
import Derived.Test.YtgnnendcgbijnaaDoorParE
import Derived.Deep.RegionWith
import Derived.Outline
namespace Go.Proofs.YtgnnendcgbijnaaDoor
open Go.ChangeShapes Go.WideShapes Go.ChangeAt Go.RowKit
set_option linter.unusedVariables false

abbrev Par := St → Ex × St
def chainLoop (part : Par) (xs : List (List UInt8)) : Nat → Ex → St → Ex × St
  | 0, e, s => (e, s)
  | n + 1, e, s => if s.sees xs then chainLoop part xs n (joinedL s.now e (part s.next).1) (part s.next).2 else (e, s)
def chainL (part : Par) (xs : List (List UInt8)) (s : St) : Ex × St := chainLoop part xs (part s).2.left.length (part s).1 (part s).2

/-- A parser that keeps how deep the reader is, and makes no tokens. -/
def Fine (n : Nat) (part : Par) : Prop := ∀ s : St, s.left.length ≤ n → (part s).2.deep = s.deep ∧ (part s).2.left.length ≤ s.left.length

/-- It answers an expression in memory that is new, and the reader is then so. -/
def ExPost (R g : Nat) (p : Ex × St) (w : World) (e : Ending) (w' : World) : Prop := ∃ cs, e = .returned (.agg cs) ∧ p.1.At w' (w.heap.size ≤ ·) cs ∧ Went R w w' ∧ Reads R g p.2 w'
/-- What a parser promises, of readers with so few tokens left, not too deep. -/
def ParOk (R g n f : Nat) (part : Par) : Prop := ∀ (s : St) (w : World), s.left.length ≤ n → s.deep + 2 * s.left.length ≤ 300000 → Reads R g s w →
  Calls Tryd.prog f #[.pointer (some ⟨R, 0, none⟩)] w (ExPost R g (part s) w)

def lenOf (w : World) (R : Nat) : Nat := match w.cell? ⟨R, 0, none⟩ with | some (.slice _ n _) => n | _ => 0
theorem lenOf_reads {R g : Nat} {s : St} {w : World} (h : Reads R g s w) : lenOf w R = s.left.length := by
  obtain ⟨o, cap, h1, _⟩ := h.row
  unfold lenOf
  rw [Lib.cell_of_heap h1]
  rfl
theorem next_len {R g : Nat} {s : St} {w : World} {xs : List (List UInt8)} (h : Reads R g s w) (hs : s.sees xs = true) (hx : [] ∉ xs) : s.next.left.length + 1 = s.left.length ∧ s.next.deep = s.deep := by
  obtain ⟨t, r, e⟩ := List.exists_cons_of_ne_nil h.last.ne
  have hnow : s.now = t := by unfold St.now; rw [e]; rfl
  have hk : s.now.kind ≠ 0 := by
    intro hk
    have := (h.last.2 s.now (by rw [hnow, e]; simp)).1 hk
    unfold St.sees at hs
    rw [this] at hs
    exact hx (by simpa using hs)
  unfold St.next
  rw [if_neg hk]
  simp [e]
theorem Went.keep {R k : Nat} {w w' : World} {o : Obj} (h : Went R w w') (hk : w.heap[k]? = some o) (hne : k ≠ R) : w'.heap[k]? = some o :=
  (h.block k (Array.getElem?_eq_some_iff.1 hk).1 (by simpa using hne)).trans hk
theorem five {w : World} {k : Nat} {a b c d e : Value} {t : TypeId} (h : w.heap[k]? = some (.cells #[a, b, c, d, e] t (0, 0))) :
    w.cell? ⟨k, 0, none⟩ = some a ∧ w.cell? ⟨k, 1, none⟩ = some b ∧ w.cell? ⟨k, 2, none⟩ = some c ∧ w.cell? ⟨k, 3, none⟩ = some d ∧ w.cell? ⟨k, 4, none⟩ = some e := by
  refine ⟨?_, ?_, ?_, ?_, ?_⟩ <;> (rw [Lib.cell_of_heap h]; rfl)
def zero7 : Array Value := #[.int .i64 0, .int .i64 0, .int .i64 0, .int .i64 0, .string ⟨#[]⟩, .int .i64 0, .slice none 0 0]
theorem Reads.sets {R g r : Nat} {s : St} {w w' : World} (h : Reads R g s w) (hr : R < r) (hs : Sets r w w') : Reads R g s w' := by
  have h1 := h.lt; have h2 := h.low
  obtain ⟨o, cap, a1, a2, a3⟩ := h.row
  exact ⟨h.lt, ⟨o, cap, (hs.keep R (by omega)).trans a1, a2, a3.keep fun p => World.cell?_of_block (hs.keep g (by omega))⟩, h.last, h.len, h.deep, h.low, h.signs.keep (by rw [hs.size]; exact Nat.le_refl _) fun p => World.cell?_of_block (hs.keep 1 (by omega))⟩
theorem Went.sets {R r : Nat} {w w' w'' : World} (h : Went R w w') (hr : w.heap.size ≤ r) (hs : Sets r w' w'') : Went R w w'' :=
  ⟨hs.os.trans h.os, hs.tape.trans h.tape, hs.output.trans h.output, by rw [hs.size]; exact h.size, fun k hk hne => (hs.keep k (by omega)).trans (h.block k hk hne)⟩
theorem Ex.At.weak {w : World} {S S' : Nat → Prop} {e : Ex} {cs : Array Value} (h : e.At w S cs) (hS : ∀ g, S g → S' g) : e.At w S' cs := Ex.At.keep (fun g h _ => hS g h) (fun _ _ _ _ => rfl) e cs h

/-- What a chain's round begins with: the expression so far in block b, the answer's place in block r, the marks in block m. -/
structure Round (R g r b m : Nat) (n : Nat) (xs : List (List UInt8)) (part : Par) (goal : Ex × St) (d : Int) (w0 w : World) : Prop where
  blocks : R < r ∧ r < b ∧ w0.heap.size ≤ r ∧ b < w.heap.size
  went : Went R w0 w
  res : w.heap[r]? = some (.cells zero7 51 (0, 0))
  marks : Marks w m xs ∧ m < w.heap.size ∧ m ≠ R ∧ m ≠ b ∧ m ≠ r
  now : ∃ (k : Nat) (e : Ex) (s : St) (cs : Array Value), w.heap[b]? = some (.cells cs 51 (0, 0)) ∧ e.At w (fun q => r < q ∧ q ≠ b) cs ∧ Reads R g s w ∧ s.left.length ≤ k ∧ s.left.length ≤ n ∧ s.deep = d ∧ chainLoop part xs k e s = goal

def tokCells (t : Tok) : Array Value := #[.int .i64 t.kind, .string ⟨t.text.toArray⟩, .int .i64 t.num, .int .i64 t.line, .int .i64 t.col]
/-- Behind a part: what the round still needs. -/
structure PIn (R g r b tb : Nat) (t : Tok) (e : Ex) (ce : Array Value) (p : Ex × St) (cp : Array Value) (W w : World) : Prop where
  went : Went R W w
  reads : Reads R g p.2 w
  tok : w.heap[tb]? = some (.cells (tokCells t) 68 (0, 0))
  blk : w.heap[b]? = some (.cells ce 51 (0, 0))
  ate : e.At w (fun q => r < q ∧ q ≠ b) ce
  atp : p.1.At w (fun q => r < q ∧ q ≠ b) cp
theorem PIn.more {R g r b tb : Nat} {t : Tok} {e : Ex} {ce cp : Array Value} {p : Ex × St} {W w w' : World} (h : PIn R g r b tb t e ce p cp W w) (hg : w.grownBy w' none) : PIn R g r b tb t e ce p cp W w' :=
  ⟨h.went.trans (went_none hg), h.reads.more hg, (went_none (R := tb + b + 1) hg).keep h.tok (by omega), (went_none (R := tb + b + 1) hg).keep h.blk (by omega), h.ate.grown hg, h.atp.grown hg⟩
theorem grown_refl (w : World) : w.grownBy w none := ⟨rfl, rfl, rfl, Nat.le_refl _, fun _ _ _ => rfl⟩
theorem grown_drew {w w' : World} (h : w.grownBy w' none) : w.grownBy w'.drew none := ⟨h.os, h.tape, h.output, h.size, h.block⟩

def PPost (R g r b tb : Nat) (t : Tok) (e : Ex) (ce : Array Value) (p : Ex × St) (W : World) (e' : Ending) (w' : World) : Prop :=
  ∃ k l c n m o x y z, e' = .returned (.agg (cells7 k l c n m o (.slice x y z))) ∧ PIn R g r b tb t e ce p (cells7 k l c n m o (.slice x y z)) W w'
theorem part_in {R g n f r b tb : Nat} {part : Par} {t : Tok} {e : Ex} {ce : Array Value} {s : St} {W : World} (hp : ParOk R g n f part) (hl : s.left.length ≤ n) (hd : s.deep + 2 * s.left.length ≤ 300000) (h : Reads R g s W) (htok : W.heap[tb]? = some (.cells (tokCells t) 68 (0, 0))) (hblk : W.heap[b]? = some (.cells ce 51 (0, 0))) (hate : e.At W (fun q => r < q ∧ q ≠ b) ce) (hr : R < r) (hb : r < b) (htb : R < tb) (hbs : b < W.heap.size) :
    ∀ wx, W.grownBy wx none → Calls Tryd.prog f #[.pointer (some ⟨R, 0, none⟩)] wx (PPost R g r b tb t e ce (part s) W) := by
  intro wx hg
  refine (hp s wx hl hd (h.more hg)).mono ?_
  rintro e' w' ⟨cs, rfl, hat, hw, hr'⟩
  obtain ⟨k, l, c, n, m, o, x, y, z, rfl⟩ := hat.cells
  have hwt := (went_none hg).trans hw
  have hsz := hg.size
  refine ⟨k, l, c, n, m, o, x, y, z, rfl, hwt, hr', hwt.keep htok (by omega), hwt.keep hblk (by omega), ?_, hat.weak (fun q hq => ⟨by have : wx.heap.size ≤ q := hq; omega, by have : wx.heap.size ≤ q := hq; omega⟩)⟩
  exact Ex.At.keep (fun q h _ => h) (fun q h hlt o => World.cell?_of_block (hwt.block q hlt (by simp; omega))) _ _ hate
/-- Behind the joining: the new expression, and the place of the old one still as it was. -/
structure JIn (R g r b : Nat) (p : Ex) (s : St) (cp : Array Value) (ce : Array Value) (W w : World) : Prop where
  went : Went R W w
  reads : Reads R g s w
  blk : w.heap[b]? = some (.cells ce 51 (0, 0))
  atp : p.At w (fun q => r < q ∧ q ≠ b) cp
def JPost (R g r b : Nat) (p : Ex) (s : St) (ce : Array Value) (W : World) (e' : Ending) (w' : World) : Prop :=
  ∃ k l c n m o x y z, e' = .returned (.agg (cells7 k l c n m o (.slice x y z))) ∧ JIn R g r b p s (cells7 k l c n m o (.slice x y z)) ce W w'
theorem join_in {R g r b tb : Nat} {t : Tok} {e : Ex} {ce cp : Array Value} {p : Ex × St} {W w : World} (h : PIn R g r b tb t e ce p cp W w) (hb : b < w.heap.size) (hr : r < w.heap.size) :
    ∀ wx, w.grownBy wx none → Calls Tryd.prog 85 #[tokAgg t, .agg ce, .agg cp] wx (JPost R g r b (joinedL t e p.1) p.2 ce W) := by
  intro wx hg
  have h' := h.more hg
  have hsz := hg.size
  refine (joined_any (fun q => r < q ∧ q ≠ b) t e p.1 ce cp wx (fun q hq => ⟨by omega, by omega⟩) h'.ate h'.atp h'.reads.signs).mono ?_
  rintro e' w' ⟨cs, rfl, hat, hg'⟩
  obtain ⟨k, l, c, n, m, o, x, y, z, rfl⟩ := hat.cells
  exact ⟨k, l, c, n, m, o, x, y, z, rfl, h'.went.trans (went_none hg'), h'.reads.more hg', (went_none (R := b + 1) hg').keep h'.blk (by omega), hat⟩
theorem ex_end {R g r : Nat} {S : Nat → Prop} {p : Ex × St} {cs : Array Value} {w w2 w' : World} (hs : Sets r w2 w') (hat : p.1.At w2 S cs) (hS : ∀ q, S q → w.heap.size ≤ q ∧ q ≠ r) (hr : w.heap.size ≤ r) (hR : R < r) (hw : Went R w w2) (hrd : Reads R g p.2 w2) : ExPost R g p w (.returned (.agg cs)) w' :=
  ⟨cs, rfl, Ex.At.keep (fun q hq _ => (hS q hq).1) (fun q hq _ o => World.cell?_of_block (hs.keep q (hS q hq).2)) _ _ hat, hw.sets hr hs, hrd.sets hR hs⟩
theorem Sets.drew {r : Nat} {w w' : World} (h : Sets r w w') : Sets r w w'.drew := ⟨h.keep, h.size, h.os, h.tape, h.output⟩
theorem set7 {w : World} {b : Nat} {t : TypeId} {p0 p1 p2 p3 p4 p5 p6 : Value} (a0 a1 a2 a3 a4 a5 a6 : Value) (h : w.heap[b]? = some (.cells #[p0, p1, p2, p3, p4, p5, p6] t (0, 0))) :
    (((((((w.setCell ⟨b, 0, none⟩ a0).setCell ⟨b, 1, none⟩ a1).setCell ⟨b, 2, none⟩ a2).setCell ⟨b, 3, none⟩ a3).setCell ⟨b, 4, none⟩ a4).setCell ⟨b, 5, none⟩ a5).setCell ⟨b, 6, none⟩ a6).heap[b]? = some (.cells #[a0, a1, a2, a3, a4, a5, a6] t (0, 0)) := by
  have h0 : (w.setCell ⟨b, 0, none⟩ a0).heap[b]? = some (.cells #[a0, p1, p2, p3, p4, p5, p6] t (0, 0)) := set_block _ b 0 _ _ _ h
  have h1 : ((w.setCell ⟨b, 0, none⟩ a0).setCell ⟨b, 1, none⟩ a1).heap[b]? = some (.cells #[a0, a1, p2, p3, p4, p5, p6] t (0, 0)) := set_block _ b 1 _ _ _ h0
  have h2 : (((w.setCell ⟨b, 0, none⟩ a0).setCell ⟨b, 1, none⟩ a1).setCell ⟨b, 2, none⟩ a2).heap[b]? = some (.cells #[a0, a1, a2, p3, p4, p5, p6] t (0, 0)) := set_block _ b 2 _ _ _ h1
  have h3 : ((((w.setCell ⟨b, 0, none⟩ a0).setCell ⟨b, 1, none⟩ a1).setCell ⟨b, 2, none⟩ a2).setCell ⟨b, 3, none⟩ a3).heap[b]? = some (.cells #[a0, a1, a2, a3, p4, p5, p6] t (0, 0)) := set_block _ b 3 _ _ _ h2
  have h4 : (((((w.setCell ⟨b, 0, none⟩ a0).setCell ⟨b, 1, none⟩ a1).setCell ⟨b, 2, none⟩ a2).setCell ⟨b, 3, none⟩ a3).setCell ⟨b, 4, none⟩ a4).heap[b]? = some (.cells #[a0, a1, a2, a3, a4, p5, p6] t (0, 0)) := set_block _ b 4 _ _ _ h3
  have h5 : ((((((w.setCell ⟨b, 0, none⟩ a0).setCell ⟨b, 1, none⟩ a1).setCell ⟨b, 2, none⟩ a2).setCell ⟨b, 3, none⟩ a3).setCell ⟨b, 4, none⟩ a4).setCell ⟨b, 5, none⟩ a5).heap[b]? = some (.cells #[a0, a1, a2, a3, a4, a5, p6] t (0, 0)) := set_block _ b 5 _ _ _ h4
  have h6 : (((((((w.setCell ⟨b, 0, none⟩ a0).setCell ⟨b, 1, none⟩ a1).setCell ⟨b, 2, none⟩ a2).setCell ⟨b, 3, none⟩ a3).setCell ⟨b, 4, none⟩ a4).setCell ⟨b, 5, none⟩ a5).setCell ⟨b, 6, none⟩ a6).heap[b]? = some (.cells #[a0, a1, a2, a3, a4, a5, a6] t (0, 0)) := set_block _ b 6 _ _ _ h5
  exact h6
theorem round_next {R g r b m n : Nat} {xs : List (List UInt8)} {part : Par} {goal : Ex × St} {d : Int} {w0 wr W w10 w11 : World} {p : Ex} {s : St} {cp ce : Array Value} {k : Nat} (h10 : JIn R g r b p s cp ce W w10) (hs : Sets b w10 w11) (hb11 : w11.heap[b]? = some (.cells cp 51 (0, 0)))
    (hw : Went R wr W) (hwr : Went R w0 wr) (hres : wr.heap[r]? = some (.cells zero7 51 (0, 0))) (hmk : Marks wr m xs) (hm1 : m < wr.heap.size) (hm2 : m ≠ R) (hm3 : m ≠ b) (hm4 : m ≠ r) (hb1 : R < r) (hb2 : r < b) (hb3 : w0.heap.size ≤ r) (hb4 : b < wr.heap.size)
    (hk : s.left.length ≤ k) (hn : s.left.length ≤ n) (hd : s.deep = d) (hg : chainLoop part xs k p s = goal) : Round R g r b m n xs part goal d w0 w11 := by
  have hall := hw.trans h10.went
  have hsz := hall.size
  refine ⟨⟨hb1, hb2, hb3, by rw [hs.size]; omega⟩, (hwr.trans hall).sets (by omega) hs, (hs.keep r (by omega)).trans (hall.keep hres (by omega)), ⟨hmk.keep fun q => ?_, by rw [hs.size]; omega, hm2, hm3, hm4⟩, k, p, s, cp, hb11, ?_, h10.reads.sets (by omega) hs, hk, hn, hd, hg⟩
  · rw [World.cell?_of_block (hs.keep m hm3), World.cell?_of_block (hall.block m hm1 (by simpa using hm2))]
  · exact Ex.At.keep (fun q h _ => h) (fun q h _ o => World.cell?_of_block (hs.keep q h.2)) _ _ h10.atp
theorem len_next {R g r b : Nat} {p : Ex} {s : St} {cp ce : Array Value} {W w10 w11 : World} (h : JIn R g r b p s cp ce W w10) (hs : Sets b w10 w11) (hR : R < b) : lenOf w11 R = s.left.length := lenOf_reads (h.reads.sets hR hs)
end Go.Proofs.YtgnnendcgbijnaaDoor
