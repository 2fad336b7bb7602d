/-
  strings.Builder's copyCheck, WriteString, WriteByte: over a builder that the call made.
  Trees, as Go's memory holds them, and as text; what the small functions of ast do.
  What ast's write does: a tree's text goes into the builder.
  What ast's write does: expressions with kids.
  What ast's write does: calls; every expression; Text; the document's example.
  What ast's write and Text do, of every expression; the document's example.
-/
import Derived.Test.YtgnnendcgbijnaaDoorRows
import Derived.Test.YtgnnendcgbijnaaDoorShelf
import Derived.Lib.OthersKept
import Derived.Lib.FrozenHead
import Derived.WalkKit
import Derived.ProofKit
import Derived.OpenShut
import Derived.Lib.Hide
import Derived.Deep.QuietTactic
import Derived.BigQuiet
import Derived.Lib.AppendIntMem
import Derived.Sort.Grow
namespace Go.Proofs.YtgnnendcgbijnaaDoor
open Go.ChangeShapes Go.WideShapes Go.ChangeAt Go.RowKit
set_option linter.unusedVariables false

theorem sizeBuilder : (Tryd.prog.info? 63).map (·.size) = some 2 := by kernel_rfl
theorem liesBuilder : liesAt Tryd.prog Tryd.prog.depth 63 (2 / Tryd.prog.cellsOf 63) 0 63 1 = true := by kernel_rfl
theorem infoByte : (Tryd.prog.info? 5).map (fun i => (i.zero, i.size, i.bytes)) = some (some (.int .u8 0), 1, 1) := by kernel_rfl

set_option maxHeartbeats 1000000 in
set_option maxRecDepth 100000 in
theorem copyCheck_fresh (b : Nat) (w : World) (h0 : w.cell? ⟨b, 0, none⟩ = some (.pointer none)) (hsh : w.shape? b = some (63, 2)) (hfz : w.frozen? ⟨b, 0, none⟩ = false) :
    Calls Tryd.prog 47 #[.pointer (some ⟨b, 0, none⟩)] w fun e w' => e = .returned (.tuple #[]) ∧ w' = w.setCell ⟨b, 0, none⟩ (.pointer (some ⟨b, 0, none⟩)) := by
  obtain ⟨j, hj, hjs⟩ := Option.map_eq_some_iff.1 sizeBuilder
  go_enter Tryd.func47, Tryd.ntmps47
  go_wp2
  rw [Lib.run_to_unsafe w ⟨b, 0, none⟩ Tryd.underlying61 Tryd.underlying102 hj (by rw [hjs]; decide) hsh (Nat.zero_lt_succ 1)]
  simp only [Result.andThen]
  rw [Oper.upon_value]
  go_wp2
  rw [run_callFunc_extern Tryd.func59 (by kernel_rfl) (by kernel_rfl) (by kernel_rfl) (e := Extern.AbiNoEscape.same) (by kernel_rfl)]
  rw [Lib.run_noEscape]
  simp only [Result.andThen]
  rw [Oper.upon_value]
  go_wp2
  rw [Lib.run_from_unsafe w ⟨b, 0, none⟩ Tryd.underlying102 Tryd.underlying61 hj hsh liesBuilder]
  simp only [Result.andThen]
  rw [Oper.upon_value]
  go_wp2
  go_end0
  exact ⟨rfl, rfl⟩

set_option maxHeartbeats 1000000 in
set_option maxRecDepth 100000 in
theorem copyCheck_used (b : Nat) (w : World) (h0 : w.cell? ⟨b, 0, none⟩ = some (.pointer (some ⟨b, 0, none⟩))) :
    Calls Tryd.prog 47 #[.pointer (some ⟨b, 0, none⟩)] w fun e w' => e = .returned (.tuple #[]) ∧ w' = w := by
  obtain ⟨j, hj, hjs⟩ := Option.map_eq_some_iff.1 sizeBuilder
  go_enter Tryd.func47, Tryd.ntmps47
  go_wp2
  rw [Lib.run_neq_ptr_same w _ Tryd.underlying61 hj]
  go_wp2
  go_end0
  exact ⟨rfl, rfl⟩

/-- What a call that writes into the builder leaves: so many bytes there, all below as it was, and of the rest what is no row of bytes. -/
structure Wrote (B b : Nat) (l : List Value) (w w' : World) : Prop where
  is : Lib.IsBuilderF 63 5 B b l w'
  below : Below B w w'
  kept : Lib.OthersKept 5 (some b) w w'

theorem Wrote.refl {B b : Nat} {l : List Value} {w : World} (h : Lib.IsBuilderF 63 5 B b l w) : Wrote B b l w w := ⟨h, Below.refl _ _, Lib.OthersKept.refl _ _ _⟩
theorem Wrote.trans {B b : Nat} {l l' : List Value} {w w' w'' : World} (h : Wrote B b l w w') (k : Wrote B b l' w' w'') : Wrote B b l' w w'' := ⟨k.is, h.below.trans k.below, h.kept.trans k.kept⟩

theorem copyCheck_any (B b : Nat) (bs : List Value) (w : World) (h : Lib.IsBuilderF 63 5 B b bs w) :
    Calls Tryd.prog 47 #[.pointer (some ⟨b, 0, none⟩)] w fun e w' => e = .returned (.tuple #[]) ∧ Lib.BuilderAtF 63 5 B b (.pointer (some ⟨b, 0, none⟩)) bs w' ∧ Below B w w' ∧ Lib.OthersKept 5 (some b) w w' := by
  rcases h with h | h
  · refine (copyCheck_fresh b w h.cell0 h.shape h.frozen0).mono ?_
    rintro e w' ⟨rfl, rfl⟩
    exact ⟨rfl, h.used _, (Below.refl B w).setCell (p := ⟨b, 0, none⟩) h.1 _, (Lib.OthersKept.refl _ _ w).setCell ⟨b, 0, none⟩ rfl _⟩
  · refine (copyCheck_used b w h.cell0).mono ?_
    rintro e w' ⟨rfl, rfl⟩
    exact ⟨rfl, h, Below.refl B _, Lib.OthersKept.refl _ _ _⟩

set_option maxHeartbeats 1000000 in
set_option maxRecDepth 100000 in
theorem writeString_any (B b : Nat) (bs : List Value) (s : ByteArray) (w : World) (h : Lib.IsBuilderF 63 5 B b bs w) (hlen : bs.length + s.size ≤ 140737488355328) (hBw : B ≤ w.heap.size) :
    Calls Tryd.prog 22 #[.pointer (some ⟨b, 0, none⟩), .string s] w fun e w' => e = .returned (.tuple #[.int .i64 s.size, .nilIface]) ∧ Wrote B b (bs ++ Lib.strCells s) w w' := by
  obtain ⟨i0, hi, hz⟩ := Option.map_eq_some_iff.1 infoByte
  obtain ⟨hz0, hz1, hz2⟩ : i0.zero = some (.int .u8 0) ∧ i0.size = 1 ∧ i0.bytes = 1 := by simpa using hz
  clear hz
  go_enter Tryd.func22, Tryd.ntmps22
  go_wp2_with (fail)
  refine (copyCheck_any B b bs _ h).mono ?_
  rintro e w1 ⟨rfl, h1, hb1, hk1⟩
  obtain ⟨hB, v, hbk, hown, hne⟩ := h1
  have c0 : w1.cell? ⟨b, 0, none⟩ = some (.pointer (some ⟨b, 0, none⟩)) := by rw [Lib.cell_of_heap hbk]; rfl
  have c1 : w1.cell? ⟨b, 1, none⟩ = some v := by rw [Lib.cell_of_heap hbk]; rfl
  go_wp2_with (at_builtin; refine Lib.wpList_append_own_stringF _ rfl _ _ 60 9 rfl B 5 i0 Tryd.underlying60 Tryd.underlying9 hi hz0 hz1 hz2 _ _ _ rfl hown s rfl ?c3 ?c4 ?c5 ?_)
  case c3 => unfold maxLen; omega
  case c4 => omega
  case c5 => have := hb1.size; omega
  intro v' w2 hown' hgrow _
  have hlt : b < w1.heap.size := by
    rcases Nat.lt_or_ge b w1.heap.size with h' | h'
    · exact h'
    · simp [Array.getElem?_eq_none h'] at hbk
  have hb2 : w2.heap[b]? = some (.cells #[.pointer (some ⟨b, 0, none⟩), v] 63 (0, 0)) := by
    rw [hgrow.block b hlt (fun e => hne e.symm)]
    exact hbk
  have d0 : w2.cell? ⟨b, 0, none⟩ = some (.pointer (some ⟨b, 0, none⟩)) := by rw [Lib.cell_of_heap hb2]; rfl
  have d1 : w2.cell? ⟨b, 1, none⟩ = some v := by rw [Lib.cell_of_heap hb2]; rfl
  have f1 : w2.frozen? ⟨b, 1, none⟩ = false := Lib.frozen_of_heap hb2 1
  obtain ⟨ao, n', cap, rfl⟩ : ∃ ao n' cap, v' = .slice ao n' cap := by
    rcases hown'.2 with ⟨hv, _⟩ | ⟨g, cap, cur, fz, hv, _⟩
    · exact ⟨_, _, _, hv⟩
    · exact ⟨_, _, _, hv⟩
  go_wp2
  go_ret2
  refine ⟨rfl, ?_, ?_, (hk1.grown hgrow (Lib.ownsRowF_kind hown)).setCell ⟨b, 1, none⟩ rfl _⟩
  · exact .inr (Lib.BuilderAtF.put (T := 63) (e := 5) hB hb2 (bs' := bs ++ Lib.strCells s) (by simpa [Lib.strCells_length] using hown') (by decide))
  · exact (hb1.grown hgrow (by have := hb1.size; omega) (fun k hk => (hown.lt k hk).1)).setCell (p := ⟨b, 1, none⟩) hB _
end Go.Proofs.YtgnnendcgbijnaaDoor

namespace Go.Proofs.YtgnnendcgbijnaaDoor
open Go.ChangeShapes Go.WideShapes Go.ChangeAt Go.RowKit
set_option linter.unusedVariables false

/-- An expression. -/
inductive Ex where
  | mk (kind line col num : Int) (name : List UInt8) (op : Int) (kids : List Ex)

def signsAll : List (List UInt8) := [[43], [45], [42], [47], [37], [38], [124], [94], [60, 60], [62, 62], [61, 61], [33, 61], [60], [60, 61]]
def signL (o : Int) : List UInt8 := if o < 1 ∨ 14 < o then [] else signsAll.getD (o - 1).toNat []
def betweenL (kind op : Int) : List UInt8 := if kind = 7 then [38, 38] else if kind = 8 then [124, 124] else signL op
/-- Texts with ", " between. -/
def commas : List (List UInt8) → List UInt8
  | [] => []
  | [x] => x
  | x :: y :: r => x ++ [44, 32] ++ commas (y :: r)
/-- An expression's text, of its kids' texts. -/
def textOf (kind num : Int) (name : List UInt8) (op : Int) (ks : List (List UInt8)) : List UInt8 :=
  if kind = 1 then Lib.itoa num
  else if kind = 2 then Lib.formatBool (num != 0)
  else if kind = 3 then name
  else if kind = 5 then name ++ [40] ++ commas ks ++ [41]
  else if ks = [] then [63]
  else if kind = 4 then name ++ [91] ++ ks.headD [] ++ [93]
  else if kind = 9 then [33] ++ ks.headD []
  else [40] ++ ks.headD [] ++ [32] ++ betweenL kind op ++ [32] ++ ks.getLastD [] ++ [41]

mutual
def Ex.text : Ex → List UInt8
  | .mk kind _ _ num name op kids => textOf kind num name op (Ex.texts kids)
def Ex.texts : List Ex → List (List UInt8)
  | [] => []
  | e :: r => e.text :: Ex.texts r
end
mutual
def Ex.size : Ex → Nat
  | .mk _ _ _ _ _ _ kids => 1 + Ex.sizes kids
def Ex.sizes : List Ex → Nat
  | [] => 0
  | e :: r => e.size + Ex.sizes r
end
theorem Ex.texts_length : ∀ l : List Ex, (Ex.texts l).length = l.length
  | [] => rfl
  | e :: r => by simp [Ex.texts, Ex.texts_length r]
theorem Ex.texts_get : ∀ (l : List Ex) (i : Nat) (h : i < l.length), (Ex.texts l)[i]'(by rw [Ex.texts_length]; exact h) = (l[i]).text
  | e :: r, 0, _ => rfl
  | e :: r, i + 1, h => by simpa [Ex.texts] using Ex.texts_get r i (by simpa using h)
theorem Ex.sizes_get : ∀ (l : List Ex) (i : Nat) (h : i < l.length), (l[i]).size ≤ Ex.sizes l
  | e :: r, 0, _ => by simp [Ex.sizes]
  | e :: r, i + 1, h => by have := Ex.sizes_get r i (by simpa using h); simp [Ex.sizes]; omega

def InI64 (n : Int) : Prop := -9223372036854775808 ≤ n ∧ n ≤ 9223372036854775807
def cells7 (kind line col num : Int) (name : List UInt8) (op : Int) (kv : Value) : Array Value :=
  #[.int .i64 kind, .int .i64 line, .int .i64 col, .int .i64 num, .string ⟨name.toArray⟩, .int .i64 op, kv]

/-- An Index's kids have no room behind them. -/
def Tight (kind : Int) (kv : Value) : Prop := kind ≠ 4 ∨ ∃ a n, kv = .slice a n n
mutual
/-- These seven cells are this expression, its kids in memory, in such blocks. -/
def Ex.At (w : World) (S : Nat → Prop) : Ex → Array Value → Prop
  | .mk kind line col num name op kids, cs => InI64 num ∧ InI64 op ∧ ∃ kv, cs = cells7 kind line col num name op kv ∧ Tight kind kv ∧
      ((kids = [] ∧ ∃ a cap, kv = .slice a 0 cap) ∨ (kids ≠ [] ∧ ∃ g o cap, kv = .slice (some ⟨g, o, none⟩) kids.length cap ∧ S g ∧ kids.length ≤ cap ∧ kids.length ≤ 4611686018427387904 ∧ Ex.Row w S g o kids))
/-- From this cell on expressions lie one behind the other. -/
def Ex.Row (w : World) (S : Nat → Prop) (g : Nat) : Nat → List Ex → Prop
  | _, [] => True
  | o, e :: r => (∃ cs, e.At w S cs ∧ ∀ j, j < 7 → w.cell? ⟨g, o + j, none⟩ = cs[j]?) ∧ Ex.Row w S g (o + 7) r
end
theorem Ex.At.cells {w : World} {S : Nat → Prop} : ∀ {e : Ex} {cs : Array Value}, e.At w S cs → ∃ kind line col num name op ka kn kc, cs = cells7 kind line col num name op (.slice ka kn kc)
  | .mk kind line col num name op kids, cs, h => by
    unfold Ex.At at h
    obtain ⟨_, _, kv, rfl, _, h⟩ := h
    rcases h with ⟨_, a, cap, rfl⟩ | ⟨_, g, o, cap, rfl, _⟩ <;> exact ⟨_, _, _, _, _, _, _, _, _, rfl⟩
theorem Ex.Row.lt {w : World} {S : Nat → Prop} {g o : Nat} {e : Ex} {r : List Ex} (h : Ex.Row w S g o (e :: r)) : g < w.heap.size := by
  unfold Ex.Row at h
  obtain ⟨⟨cs, h1, h2⟩, _⟩ := h
  obtain ⟨kind, line, col, num, name, op, ka, kn, kc, rfl⟩ := h1.cells
  exact World.block_lt_of_cell? _ _ (h2 0 (by decide))
mutual
theorem Ex.At.keep {w w' : World} {S S' : Nat → Prop} (hS : ∀ g, S g → g < w.heap.size → S' g) (hk : ∀ g, S g → g < w.heap.size → ∀ o, w'.cell? ⟨g, o, none⟩ = w.cell? ⟨g, o, none⟩) : ∀ (e : Ex) (cs : Array Value), e.At w S cs → e.At w' S' cs
  | .mk kind line col num name op kids, cs, h => by
    unfold Ex.At at h ⊢
    obtain ⟨hn, ho, kv, rfl, ht, h⟩ := h
    refine ⟨hn, ho, kv, rfl, ht, ?_⟩
    rcases h with h | ⟨hne, g, o, cap, rfl, hg, h1, h2, h3⟩
    · exact .inl h
    · have hlt : g < w.heap.size := by
        obtain ⟨e, r, rfl⟩ := List.exists_cons_of_ne_nil hne
        exact h3.lt
      exact .inr ⟨hne, g, o, cap, rfl, hS g hg hlt, h1, h2, Ex.Row.keep hS hk g hg hlt o kids h3⟩
theorem Ex.Row.keep {w w' : World} {S S' : Nat → Prop} (hS : ∀ g, S g → g < w.heap.size → S' g) (hk : ∀ g, S g → g < w.heap.size → ∀ o, w'.cell? ⟨g, o, none⟩ = w.cell? ⟨g, o, none⟩) (g : Nat) (hg : S g) (hlt : g < w.heap.size) : ∀ (o : Nat) (l : List Ex), Ex.Row w S g o l → Ex.Row w' S' g o l
  | _, [], _ => by unfold Ex.Row; trivial
  | o, e :: r, h => by
    unfold Ex.Row at h ⊢
    obtain ⟨⟨cs, h1, h2⟩, h3⟩ := h
    exact ⟨⟨cs, Ex.At.keep hS hk e cs h1, fun j hj => by rw [hk g hg hlt]; exact h2 j hj⟩, Ex.Row.keep hS hk g hg hlt (o + 7) r h3⟩
end
theorem Ex.At.later {w w' : World} {B : Nat} (hb : Below B w w') (e : Ex) (cs : Array Value) (h : e.At w (· < B) cs) : e.At w' (· < B) cs :=
  Ex.At.keep (fun _ h _ => h) (fun g hg _ o => hb.cell (p := ⟨g, o, none⟩) hg) e cs h
theorem Ex.Row.later {w w' : World} {B : Nat} (hb : Below B w w') (g : Nat) (hg : g < B) (o : Nat) (l : List Ex) (h : Ex.Row w (· < B) g o l) : Ex.Row w' (· < B) g o l := by
  cases l with
  | nil => unfold Ex.Row; trivial
  | cons e r => exact Ex.Row.keep (fun _ h _ => h) (fun g hg _ o => hb.cell (p := ⟨g, o, none⟩) hg) g hg h.lt o _ h
theorem Ex.Row.get {w : World} {S : Nat → Prop} {g : Nat} : ∀ (o : Nat) (l : List Ex), Ex.Row w S g o l → ∀ (i : Nat) (h : i < l.length), ∃ cs, (l[i]).At w S cs ∧ ∀ j, j < 7 → w.cell? ⟨g, o + (7 * i + j), none⟩ = cs[j]?
  | o, e :: r, h, 0, _ => by
    unfold Ex.Row at h
    obtain ⟨⟨cs, h1, h2⟩, _⟩ := h
    exact ⟨cs, h1, fun j hj => by rw [Nat.mul_zero, Nat.zero_add]; exact h2 j hj⟩
  | o, e :: r, h, i + 1, hi => by
    unfold Ex.Row at h
    obtain ⟨cs, h1, h2⟩ := Ex.Row.get (o + 7) r h.2 i (by simpa using hi)
    refine ⟨cs, h1, fun j hj => ?_⟩
    have e1 : o + (7 * (i + 1) + j) = o + 7 + (7 * i + j) := by omega
    rw [e1]; exact h2 j hj

/-- The package's tables, as they stand below B. -/
def Signs (w : World) : Prop := 1 < w.heap.size ∧ ∀ j x, signsAll[j]? = some x → w.cell? ⟨1, j, none⟩ = some (.string ⟨x.toArray⟩)
theorem Signs.later {w w' : World} {B : Nat} (h : Signs w) (hB : 1 < B) (hb : Below B w w') : Signs w' :=
  ⟨by have := hb.size; have := h.1; omega, fun j x hj => by rw [hb.cell (p := ⟨1, j, none⟩) hB]; exact h.2 j x hj⟩

theorem builder_more {T e : TypeId} {B b : Nat} {p : Value} {bs : List Value} {w w' : World} (h : Lib.BuilderAtF T e B b p bs w) (hg : w.grownBy w' none) : Lib.BuilderAtF T e B b p bs w' := by
  have hlt := h.lt
  obtain ⟨hB, v, hb, hown, hne⟩ := h
  exact ⟨hB, v, (hg.block b hlt (by simp)).trans hb, hown.kept hg (Classical.em _), hne⟩
theorem isB_more {B b : Nat} {bs : List Value} {w w' : World} (h : Lib.IsBuilderF 63 5 B b bs w) (hg : w.grownBy w' none) : Lib.IsBuilderF 63 5 B b bs w' :=
  h.elim (fun x => .inl (builder_more x hg)) (fun x => .inr (builder_more x hg))
theorem grown_alloc (w : World) (o : Obj) : w.grownBy (w.alloc o) none := ⟨rfl, rfl, rfl, by simp, fun k hk _ => Below.heap_alloc w o k hk⟩
theorem grown_grow (w : World) (k : Nat) (os : Array Obj) : w.grownBy (Go.Sort.grow (w.drewN k) os) none :=
  ⟨rfl, rfl, rfl, by simp [Go.Sort.grow], fun j hj _ => by simp [Go.Sort.grow, Array.getElem?_append, hj]⟩
theorem kept_grown {e : TypeId} {b : Option Nat} {w w' : World} (hg : w.grownBy w' none) : Lib.OthersKept e b w w' := fun k o hk _ _ => by
  rw [hg.block k (Array.getElem?_eq_some_iff.1 hk).1 (by simp)]; exact hk
theorem below_grown {B : Nat} {w w' : World} (hg : w.grownBy w' none) (hB : B ≤ w.heap.size) : Below B w w' := (Below.refl B w).grown hg hB (fun k hk => by cases hk)
theorem Wrote.more {B b : Nat} {bs : List Value} {w w' : World} (h : Lib.IsBuilderF 63 5 B b bs w) (hg : w.grownBy w' none) (hB : B ≤ w.heap.size) : Wrote B b bs w w' := ⟨isB_more h hg, below_grown hg hB, kept_grown hg⟩

set_option maxHeartbeats 1000000 in
set_option maxRecDepth 100000 in
theorem sign_any (o : Int) (ho : InI64 o) (w : World) (ht : Signs w) : Calls Tryd.prog 64 #[.int .i64 o] w fun e w' => e = .returned (.string ⟨(signL o).toArray⟩) ∧ w' = w := by
  have HT := Lib.hid ht.2
  obtain ⟨h1, h2⟩ := ho
  by_cases h : o < 1 ∨ 14 < o
  · have hs : signL o = [] := by unfold signL; rw [if_pos h]
    rw [hs]
    clear ht
    go_enter Tryd.func64, Tryd.ntmps64
    rcases h with h | h
    · go_wp2
      go_ret
      exact ⟨rfl, rfl⟩
    · have : ¬ o < 1 := by omega
      go_wp2
      go_ret
      exact ⟨rfl, rfl⟩
  · obtain ⟨k, rfl⟩ : ∃ k : Nat, o = k + 1 := ⟨(o - 1).toNat, by omega⟩
    have hs : signL ((k : Int) + 1) = signsAll.getD k [] := by unfold signL; rw [if_neg h, Int.add_sub_cancel, Int.toNat_natCast]
    have hl : k < signsAll.length := by show k < 14; omega
    have hx : signsAll[k]? = some (signL ((k : Int) + 1)) := by rw [hs, List.getD_eq_getElem?_getD, List.getElem?_eq_getElem hl]; rfl
    have hc := HT.out _ _ hx
    have hl' : k < 14 := hl
    generalize signL ((k : Int) + 1) = x at hc ⊢
    clear hs hx ht h hl h1 h2 HT
    go_enter Tryd.func64, Tryd.ntmps64
    go_wp2
    go_ret
    exact ⟨rfl, rfl⟩

set_option maxHeartbeats 1000000 in
set_option maxRecDepth 100000 in
theorem between_any (kind line col num : Int) (name : List UInt8) (op : Int) (kv : Value) (ho : InI64 op) (w : World) (ht : Signs w) :
    Calls Tryd.prog 50 #[.agg (cells7 kind line col num name op kv)] w fun e w' => e = .returned (.string ⟨(betweenL kind op).toArray⟩) ∧ w' = w.alloc (.cells (cells7 kind line col num name op kv) 51) := by
  unfold cells7 betweenL
  have HT := Lib.hid ht; have HO := Lib.hid ho
  clear ht ho
  by_cases h7 : kind = 7
  · subst h7
    rw [if_pos rfl]
    go_enter Tryd.func50, Tryd.ntmps50
    go_wp2_with (fail)
    go_ret
    exact ⟨rfl, rfl⟩
  · rw [if_neg h7]
    have b7 : (kind == 7) = false := by simpa using h7
    by_cases h8 : kind = 8
    · subst h8
      rw [if_pos rfl]
      go_enter Tryd.func50, Tryd.ntmps50
      go_wp2_with (fail)
      go_ret
      exact ⟨rfl, rfl⟩
    · rw [if_neg h8]
      have b8 : (kind == 8) = false := by simpa using h8
      clear h7 h8
      go_enter Tryd.func50, Tryd.ntmps50
      go_wp2_with (fail)
      refine (sign_any op HO.out _ (HT.out.later HT.out.1 ((Below.refl _ w).alloc (Nat.le_refl _) _))).mono ?_
      rintro e w' ⟨rfl, rfl⟩
      go_wp2_with (fail)
      go_ret
      exact ⟨rfl, rfl⟩
end Go.Proofs.YtgnnendcgbijnaaDoor

namespace Go.Proofs.YtgnnendcgbijnaaDoor
open Go.ChangeShapes Go.WideShapes Go.ChangeAt Go.RowKit
set_option linter.unusedVariables false

/-- What write needs beside the tree: a builder of the call's own, the tables below it. -/
structure Desk (B b : Nat) (l : List UInt8) (w : World) : Prop where
  is : Lib.IsBuilderF 63 5 B b (Lib.byteCells l) w
  le : B ≤ w.heap.size
  low : 1 < B
  signs : Signs w
  pow : Lib.TabBelow Tryd.prog B w "internal/strconv.uint64pow10" .u64 Lib.pow10Tab

theorem Desk.wrote {B b : Nat} {l l' : List UInt8} {w w' : World} (h : Desk B b l w) (k : Wrote B b (Lib.byteCells l') w w') : Desk B b l' w' :=
  ⟨k.is, by have := k.below.size; have := h.le; omega, h.low, h.signs.later h.low k.below, fun w'' hb => h.pow w'' (k.below.trans hb)⟩
theorem Desk.alloc {B b : Nat} {l : List UInt8} {w : World} (h : Desk B b l w) (o : Obj) : Wrote B b (Lib.byteCells l) w (w.alloc o) := Wrote.more h.is (grown_alloc w o) h.le

theorem wr_any (B b : Nat) (l x : List UInt8) (s : ByteArray) (hs : s.data.toList = x) (w : World) (h : Desk B b l w) (hlen : l.length + x.length ≤ 140737488355328) :
    Calls Tryd.prog 22 #[.pointer (some ⟨b, 0, none⟩), .string s] w fun e w' => ∃ n, e = .returned (.tuple #[.int .i64 n, .nilIface]) ∧ Wrote B b (Lib.byteCells (l ++ x)) w w' := by
  subst hs
  refine (writeString_any B b _ s w h.is (by rw [Lib.byteCells_length]; simpa using hlen) h.le).mono ?_
  rintro e w' ⟨rfl, hw⟩
  rw [Lib.strCells_eq, ← Lib.byteCells_append] at hw
  exact ⟨_, rfl, hw⟩

def WritePost (B b : Nat) (l : List UInt8) (w : World) (e : Ending) (w' : World) : Prop := e = .returned (.tuple #[]) ∧ Wrote B b (Lib.byteCells l) w w'
/-- What write promises of an expression. -/
def WriteOk (ex : Ex) : Prop := ∀ (cs : Array Value) (B b : Nat) (l : List UInt8) (w : World), ex.At w (· < B) cs → Desk B b l w → l.length + ex.text.length ≤ 140737488355328 →
  Calls Tryd.prog 13 #[.agg cs, .pointer (some ⟨b, 0, none⟩)] w (WritePost B b (l ++ ex.text) w)

/-- The expression's own copy. -/
theorem box_at {w w' : World} {k : Nat} {cs : Array Value} {b : Nat} (h : w.heap[k]? = some (.cells cs 51 (0, 0))) (hb : k ≠ b) (hk : Lib.OthersKept 5 (some b) w w') : w'.heap[k]? = some (.cells cs 51 (0, 0)) :=
  hk k _ h (by simpa using hb) (fun c fz he => by injection he with _ h2; exact absurd h2 (by decide))
theorem Desk.ne {B b : Nat} {l : List UInt8} {w : World} (h : Desk B b l w) : b < w.heap.size := h.is.elim (fun x => x.lt) (fun x => x.lt)

set_option maxHeartbeats 1000000 in
set_option maxRecDepth 100000 in
theorem write_var (line col num : Int) (name : List UInt8) (op : Int) (kids : List Ex) : WriteOk (.mk 3 line col num name op kids) := by
  intro cs B b l w hat hd hlen
  unfold Ex.At at hat
  obtain ⟨_, _, kv, rfl, _, _⟩ := hat
  have ht : (Ex.mk 3 line col num name op kids).text = name := by unfold Ex.text textOf; simp
  rw [ht] at hlen ⊢
  have HD := Lib.hid hd; clear hd ht
  unfold cells7
  go_enter Tryd.func13, Tryd.ntmps13
  go_wp2_with (fail)
  refine (wr_any B b l name _ rfl _ (HD.out.wrote (HD.out.alloc _)) hlen).mono ?_
  rintro e w' ⟨n, rfl, hw⟩
  have HW := Lib.hid hw; clear hw
  go_wp2_with (fail)
  go_end0
  exact ⟨rfl, (HD.out.alloc _).trans HW.out⟩

set_option maxHeartbeats 1000000 in
set_option maxRecDepth 100000 in
theorem write_num (line col num : Int) (name : List UInt8) (op : Int) (kids : List Ex) : WriteOk (.mk 1 line col num name op kids) := by
  intro cs B b l w hat hd hlen
  unfold Ex.At at hat
  obtain ⟨hn, _, kv, rfl, _, _⟩ := hat
  have ht : (Ex.mk 1 line col num name op kids).text = Lib.itoa num := by unfold Ex.text textOf; simp
  rw [ht] at hlen ⊢
  have HD := Lib.hid hd; have HN := Lib.hid hn; clear hd ht hn
  unfold cells7
  go_enter Tryd.func13, Tryd.ntmps13
  go_wp2_with (fail)
  have hd1 := HD.out.wrote (HD.out.alloc (.cells (cells7 1 line col num name op kv) 51))
  refine (Tryd.strconv_FormatInt_10 num HN.out.1 HN.out.2 _ (hd1.pow.here)).mono ?_
  rintro e w1 ⟨rfl, k, os, rfl⟩
  have hw1 : Wrote B b (Lib.byteCells l) _ _ := Wrote.more hd1.is (grown_grow _ k os) hd1.le
  have HD2 := Lib.hid (hd1.wrote hw1); have HW1 := Lib.hid hw1
  clear hd1 hw1
  go_wp2_with (fail)
  refine (wr_any B b l (Lib.itoa num) _ rfl _ HD2.out hlen).mono ?_
  rintro e w' ⟨n, rfl, hw⟩
  have HW := Lib.hid hw; clear hw
  go_wp2_with (fail)
  go_end0
  exact ⟨rfl, ((HD.out.alloc _).trans HW1.out).trans HW.out⟩

set_option maxHeartbeats 1000000 in
set_option maxRecDepth 100000 in
theorem write_truth (line col num : Int) (name : List UInt8) (op : Int) (kids : List Ex) : WriteOk (.mk 2 line col num name op kids) := by
  intro cs B b l w hat hd hlen
  unfold Ex.At at hat
  obtain ⟨hn, _, kv, rfl, _, _⟩ := hat
  have ht : (Ex.mk 2 line col num name op kids).text = Lib.formatBool (num != 0) := by unfold Ex.text textOf; simp
  rw [ht] at hlen ⊢
  have HD := Lib.hid hd; clear hd ht hn
  unfold cells7
  generalize hq : (num != 0) = q at hlen ⊢
  go_enter Tryd.func13, Tryd.ntmps13
  go_wp2_with (fail)
  refine (Tryd.strconv_FormatBool q _).mono ?_
  rintro e w1 ⟨rfl, rfl⟩
  go_wp2_with (fail)
  refine (wr_any B b l (Lib.formatBool q) _ rfl _ (HD.out.wrote (HD.out.alloc _)) hlen).mono ?_
  rintro e w' ⟨n, rfl, hw⟩
  have HW := Lib.hid hw; clear hw
  go_wp2_with (fail)
  go_end0
  exact ⟨rfl, (HD.out.alloc _).trans HW.out⟩
end Go.Proofs.YtgnnendcgbijnaaDoor

namespace Go.Proofs.YtgnnendcgbijnaaDoor
open Go.ChangeShapes Go.WideShapes Go.ChangeAt Go.RowKit
set_option linter.unusedVariables false

/-- One of several kids, cell by cell. -/
theorem kid_cells {w : World} {S : Nat → Prop} {g o : Nat} {kids : List Ex} (h : Ex.Row w S g o kids) (i : Nat) (hi : i < kids.length) : ∃ kind line col num name op ka kn kc, kids[i].At w S (cells7 kind line col num name op (.slice ka kn kc)) ∧
    w.cell? ⟨g, o + i * 7, none⟩ = some (.int .i64 kind) ∧ w.cell? ⟨g, o + i * 7 + 1, none⟩ = some (.int .i64 line) ∧ w.cell? ⟨g, o + i * 7 + 2, none⟩ = some (.int .i64 col) ∧ w.cell? ⟨g, o + i * 7 + 3, none⟩ = some (.int .i64 num) ∧
    w.cell? ⟨g, o + i * 7 + 4, none⟩ = some (.string ⟨name.toArray⟩) ∧ w.cell? ⟨g, o + i * 7 + 5, none⟩ = some (.int .i64 op) ∧ w.cell? ⟨g, o + i * 7 + 6, none⟩ = some (.slice ka kn kc) := by
  obtain ⟨cs, h1, h2⟩ := h.get o kids i hi
  obtain ⟨kind, line, col, num, name, op, ka, kn, kc, rfl⟩ := h1.cells
  have hc : ∀ j, j < 7 → w.cell? ⟨g, o + i * 7 + j, none⟩ = (cells7 kind line col num name op (.slice ka kn kc))[j]? := fun j hj => by
    have e : o + i * 7 + j = o + (7 * i + j) := by omega
    rw [e]; exact h2 j hj
  exact ⟨kind, line, col, num, name, op, ka, kn, kc, h1, hc 0 (by decide), hc 1 (by decide), hc 2 (by decide), hc 3 (by decide), hc 4 (by decide), hc 5 (by decide), hc 6 (by decide)⟩

/-- The own copy's cells. -/
theorem own7 {w : World} {k : Nat} {kind line col num : Int} {name : List UInt8} {op : Int} {kv : Value} (h : w.heap[k]? = some (.cells (cells7 kind line col num name op kv) 51 (0, 0))) :
    w.cell? ⟨k, 0, none⟩ = some (.int .i64 kind) ∧ w.cell? ⟨k, 1, none⟩ = some (.int .i64 line) ∧ w.cell? ⟨k, 2, none⟩ = some (.int .i64 col) ∧ w.cell? ⟨k, 3, none⟩ = some (.int .i64 num) ∧
    w.cell? ⟨k, 4, none⟩ = some (.string ⟨name.toArray⟩) ∧ w.cell? ⟨k, 5, none⟩ = some (.int .i64 op) ∧ w.cell? ⟨k, 6, none⟩ = some kv := by
  refine ⟨?_, ?_, ?_, ?_, ?_, ?_, ?_⟩ <;> (rw [Lib.cell_of_heap h]; rfl)

theorem alloc_heap (w : World) (o : Obj) : (w.alloc o).heap[w.heap.size]? = some o := heap_alloc_new w o
theorem Ex.text_mk (kind line col num : Int) (name : List UInt8) (op : Int) (kids : List Ex) : (Ex.mk kind line col num name op kids).text = textOf kind num name op (Ex.texts kids) := by rw [Ex.text]

theorem texts_nil {kids : List Ex} : Ex.texts kids = [] ↔ kids = [] := by cases kids <;> simp [Ex.texts]

set_option maxHeartbeats 1000000 in
set_option maxRecDepth 100000 in
theorem write_none (kind line col num : Int) (name : List UInt8) (op : Int) (h1 : (kind == 1) = false) (h2 : (kind == 2) = false) (h3 : (kind == 3) = false) (h5 : (kind == 5) = false) : WriteOk (.mk kind line col num name op []) := by
  intro cs B b l w hat hd hlen
  unfold Ex.At at hat
  obtain ⟨_, _, kv, rfl, _, hk⟩ := hat
  obtain ⟨a, cap, rfl⟩ : ∃ a cap, kv = .slice a 0 cap := by rcases hk with ⟨_, h⟩ | ⟨h, _⟩; exact h; exact absurd rfl h
  have ht : (Ex.mk kind line col num name op []).text = [63] := by
    unfold Ex.text textOf
    rw [if_neg (by simpa using h1), if_neg (by simpa using h2), if_neg (by simpa using h3), if_neg (by simpa using h5)]; rfl
  rw [ht] at hlen ⊢
  have HD := Lib.hid hd; clear hd ht hk
  unfold cells7
  go_enter Tryd.func13, Tryd.ntmps13
  go_wp2_with (fail)
  refine (wr_any B b l [63] _ rfl _ (HD.out.wrote (HD.out.alloc _)) hlen).mono ?_
  rintro e w' ⟨n, rfl, hw⟩
  have HW := Lib.hid hw; clear hw
  go_wp2_with (fail)
  go_end0
  exact ⟨rfl, (HD.out.alloc _).trans HW.out⟩

set_option maxHeartbeats 1000000 in
set_option maxRecDepth 100000 in
theorem write_not (line col num : Int) (name : List UInt8) (op : Int) (k0 : Ex) (kids : List Ex) (ih : WriteOk k0) : WriteOk (.mk 9 line col num name op (k0 :: kids)) := by
  intro cs B b l w hat hd hlen
  unfold Ex.At at hat
  obtain ⟨_, _, kv, rfl, _, hk⟩ := hat
  obtain ⟨g, o, cap, rfl, hg, hcap, hmax, hrow⟩ : ∃ g o cap, kv = .slice (some ⟨g, o, none⟩) (k0 :: kids).length cap ∧ g < B ∧ (k0 :: kids).length ≤ cap ∧ (k0 :: kids).length ≤ 4611686018427387904 ∧ Ex.Row w (· < B) g o (k0 :: kids) := by
    rcases hk with ⟨h, _⟩ | ⟨_, h⟩; exact absurd h (by simp); exact h
  have ht : (Ex.mk 9 line col num name op (k0 :: kids)).text = [33] ++ k0.text := by rw [Ex.text_mk]; unfold textOf; simp [Ex.texts]
  rw [ht] at hlen ⊢
  simp only [List.length_append, List.length_cons, List.length_nil] at hlen
  generalize hn : (k0 :: kids).length = n at hcap hmax
  have hn0 : 0 < n := by rw [← hn]; simp
  have HN := Lib.hid hn
  clear hn
  have HD := Lib.hid hd; have HR := Lib.hid hrow; clear hd ht hk hrow
  have hBw := HD.out.le
  unfold cells7
  go_enter Tryd.func13, Tryd.ntmps13
  go_wp2_with (fail)
  refine (wr_any B b l [33] _ rfl _ (HD.out.wrote (HD.out.alloc _)) (by simp; omega)).mono ?_
  rintro e w1 ⟨n1, rfl, hw1⟩
  have hbx := box_at (w := w.alloc (.cells (cells7 9 line col num name op (.slice (some ⟨g, o, none⟩) n cap)) 51)) (k := w.heap.size) (alloc_heap _ _) (Nat.ne_of_gt HD.out.ne) hw1.kept
  obtain ⟨c0, c1, c2, c3, c4, c5, c6⟩ := own7 hbx
  have hall := (HD.out.alloc (.cells (cells7 9 line col num name op (.slice (some ⟨g, o, none⟩) n cap)) 51)).trans hw1
  have hrow1 := Ex.Row.later hall.below g hg o _ HR.out
  obtain ⟨kind', line', col', num', name', op', ka', kn', kc', hat', d0, d1, d2, d3, d4, d5, d6⟩ := kid_cells hrow1 0 (by simp)
  simp only [Nat.zero_mul, Nat.add_zero] at d0 d1 d2 d3 d4 d5 d6
  have HA := Lib.hid hat'; have HALL := Lib.hid hall; have HD1 := Lib.hid (HD.out.wrote hall)
  clear hat' hall hrow1 hw1 hbx
  go_wp2_with (fail)
  refine (ih _ B b (l ++ [33]) _ HA.out HD1.out (by simp; omega)).mono ?_
  rintro e w2 ⟨rfl, hw2⟩
  have HW := Lib.hid hw2; clear hw2
  go_wp2_with (fail)
  go_end0
  refine ⟨rfl, ?_⟩
  have := HALL.out.trans HW.out
  rwa [List.append_assoc] at this

set_option maxHeartbeats 1000000 in
set_option maxRecDepth 100000 in
theorem write_index (line col num : Int) (name : List UInt8) (op : Int) (k0 : Ex) (kids : List Ex) (ih : WriteOk k0) : WriteOk (.mk 4 line col num name op (k0 :: kids)) := by
  intro cs B b l w hat hd hlen
  unfold Ex.At at hat
  obtain ⟨_, _, kv, rfl, _, hk⟩ := hat
  obtain ⟨g, o, cap, rfl, hg, hcap, hmax, hrow⟩ : ∃ g o cap, kv = .slice (some ⟨g, o, none⟩) (k0 :: kids).length cap ∧ g < B ∧ (k0 :: kids).length ≤ cap ∧ (k0 :: kids).length ≤ 4611686018427387904 ∧ Ex.Row w (· < B) g o (k0 :: kids) := by
    rcases hk with ⟨h, _⟩ | ⟨_, h⟩; exact absurd h (by simp); exact h
  have ht : (Ex.mk 4 line col num name op (k0 :: kids)).text = name ++ [91] ++ k0.text ++ [93] := by rw [Ex.text_mk]; unfold textOf; simp [Ex.texts]
  rw [ht] at hlen ⊢
  simp only [List.length_append, List.length_cons, List.length_nil] at hlen
  generalize hn : (k0 :: kids).length = n at hcap hmax
  have hn0 : 0 < n := by rw [← hn]; simp
  have HN := Lib.hid hn
  clear hn
  have HD := Lib.hid hd; have HR := Lib.hid hrow; clear hd ht hk hrow
  have hBw := HD.out.le
  unfold cells7
  go_enter Tryd.func13, Tryd.ntmps13
  go_wp2_with (fail)
  refine (wr_any B b l (name ++ [91]) _ (by simp) _ (HD.out.wrote (HD.out.alloc _)) (by simp; omega)).mono ?_
  rintro e w1 ⟨n1, rfl, hw1⟩
  have hbx := box_at (w := w.alloc (.cells (cells7 4 line col num name op (.slice (some ⟨g, o, none⟩) n cap)) 51)) (k := w.heap.size) (alloc_heap _ _) (Nat.ne_of_gt HD.out.ne) hw1.kept
  obtain ⟨c0, c1, c2, c3, c4, c5, c6⟩ := own7 hbx
  have hall := (HD.out.alloc (.cells (cells7 4 line col num name op (.slice (some ⟨g, o, none⟩) n cap)) 51)).trans hw1
  have hrow1 := Ex.Row.later hall.below g hg o _ HR.out
  obtain ⟨kind', line', col', num', name', op', ka', kn', kc', hat', d0, d1, d2, d3, d4, d5, d6⟩ := kid_cells hrow1 0 (by simp)
  simp only [Nat.zero_mul, Nat.add_zero] at d0 d1 d2 d3 d4 d5 d6
  have HA := Lib.hid hat'; have HALL := Lib.hid hall; have HD1 := Lib.hid (HD.out.wrote hall)
  clear hat' hall hrow1 hw1 hbx
  go_wp2_with (fail)
  refine (ih _ B b _ _ HA.out HD1.out (by simp; omega)).mono ?_
  rintro e w2 ⟨rfl, hw2⟩
  have HW := Lib.hid hw2; have HD2 := Lib.hid (HD1.out.wrote hw2); clear hw2
  go_wp2_with (fail)
  refine (wr_any B b _ [93] _ rfl _ HD2.out (by simp; omega)).mono ?_
  rintro e w3 ⟨n3, rfl, hw3⟩
  have HW3 := Lib.hid hw3; clear hw3
  go_wp2_with (fail)
  go_end0
  refine ⟨rfl, ?_⟩
  have := (HALL.out.trans HW.out).trans HW3.out
  simpa only [List.append_assoc] using this

set_option maxHeartbeats 1000000 in
set_option maxRecDepth 100000 in
theorem pair_any (kind line col num : Int) (name : List UInt8) (op : Int) (kids : List Ex) (hne : 0 < kids.length) (ih0 : WriteOk kids[0]) (ih1 : WriteOk kids[kids.length - 1])
    (cs : Array Value) (B b : Nat) (l : List UInt8) (w : World) (hat : (Ex.mk kind line col num name op kids).At w (· < B) cs) (hd : Desk B b l w) (t : List UInt8) (ht : t = ([40] : List UInt8) ++ kids[0].text ++ [32] ++ betweenL kind op ++ [32] ++ kids[kids.length - 1].text ++ [41]) (hlen : l.length + t.length ≤ 140737488355328) :
    Calls Tryd.prog 26 #[.agg cs, .pointer (some ⟨b, 0, none⟩)] w (WritePost B b (l ++ t) w) := by
  unfold Ex.At at hat
  obtain ⟨_, hop, kv, rfl, _, hk⟩ := hat
  obtain ⟨g, o, cap, rfl, hg, hcap, hmax, hrow⟩ : ∃ g o cap, kv = .slice (some ⟨g, o, none⟩) kids.length cap ∧ g < B ∧ kids.length ≤ cap ∧ kids.length ≤ 4611686018427387904 ∧ Ex.Row w (· < B) g o kids := by
    rcases hk with ⟨h, _⟩ | ⟨_, h⟩
    · subst h; simp at hne
    · exact h
  rw [ht] at hlen
  simp only [List.length_append, List.length_cons, List.length_nil] at hlen
  have HT := Lib.hid ht; have HOP := Lib.hid hop
  generalize hn : kids.length = n at hcap hmax
  have hn0 : 0 < n := by omega
  have HN := Lib.hid hn
  clear hn
  have HD := Lib.hid hd; have HR := Lib.hid hrow; clear hd ht hk hrow hop
  have hBw := HD.out.le
  unfold cells7
  go_enter Tryd.func26, Tryd.ntmps26
  go_wp2_with (fail)
  refine (wr_any B b l [40] _ rfl _ (HD.out.wrote (HD.out.alloc _)) (by simp; omega)).mono ?_
  rintro e w1 ⟨n1, rfl, hw1⟩
  have hbx := box_at (w := w.alloc (.cells (cells7 kind line col num name op (.slice (some ⟨g, o, none⟩) n cap)) 51)) (k := w.heap.size) (alloc_heap _ _) (Nat.ne_of_gt HD.out.ne) hw1.kept
  obtain ⟨c0, c1, c2, c3, c4, c5, c6⟩ := own7 hbx
  have hall := (HD.out.alloc (.cells (cells7 kind line col num name op (.slice (some ⟨g, o, none⟩) n cap)) 51)).trans hw1
  have hrow1 := Ex.Row.later hall.below g hg o _ HR.out
  obtain ⟨kind', line', col', num', name', op', ka', kn', kc', hat', d0, d1, d2, d3, d4, d5, d6⟩ := kid_cells hrow1 0 hne
  simp only [Nat.zero_mul, Nat.add_zero] at d0 d1 d2 d3 d4 d5 d6
  have HA := Lib.hid hat'; have HALL := Lib.hid hall; have HD1 := Lib.hid (HD.out.wrote hall); have HBX := Lib.hid hbx
  clear hat' hall hrow1 hw1 hbx
  go_wp2_with (fail)
  refine (ih0 _ B b _ _ HA.out HD1.out (by simp; omega)).mono ?_
  rintro e w2 ⟨rfl, hw2⟩
  clear c0 c1 c2 c3 c4 c5 c6 d0 d1 d2 d3 d4 d5 d6
  have hbx := box_at HBX.out (Nat.ne_of_gt HD.out.ne) hw2.kept
  obtain ⟨c0, c1, c2, c3, c4, c5, c6⟩ := own7 hbx
  have hall := HALL.out.trans hw2
  have HALL2 := Lib.hid hall; have HBX2 := Lib.hid hbx; have HD2 := Lib.hid (HD1.out.wrote hw2)
  clear hall hbx hw2 HBX
  go_wp2_with (fail)
  refine (between_any kind line col num name op _ HOP.out _ HD2.out.signs).mono ?_
  rintro e w3 ⟨rfl, rfl⟩
  have hd3 := HD2.out.wrote (HD2.out.alloc (.cells (cells7 kind line col num name op (.slice (some ⟨g, o, none⟩) n cap)) 51))
  have HD3 := Lib.hid hd3
  clear hd3
  go_wp2_with (fail)
  refine (wr_any B b _ ([32] ++ betweenL kind op ++ [32]) _ (by simp) _ HD3.out (by simp; omega)).mono ?_
  rintro e w4 ⟨n4, rfl, hw4⟩
  clear c0 c1 c2 c3 c4 c5 c6
  have hal4 := (HD2.out.alloc (.cells (cells7 kind line col num name op (.slice (some ⟨g, o, none⟩) n cap)) 51)).trans hw4
  have hbx := box_at HBX2.out (Nat.ne_of_gt HD.out.ne) hal4.kept
  obtain ⟨c0, c1, c2, c3, c4, c5, c6⟩ := own7 hbx
  have hall := HALL2.out.trans hal4
  have hrow4 := Ex.Row.later hall.below g hg o _ HR.out
  obtain ⟨kind', line', col', num', name', op', ka', kn', kc', hat', d0, d1, d2, d3, d4, d5, d6⟩ := kid_cells hrow4 (kids.length - 1) (by omega)
  rw [HN.out] at d0 d1 d2 d3 d4 d5 d6
  have HA4 := Lib.hid hat'; have HALL4 := Lib.hid hall; have HD4 := Lib.hid (HD2.out.wrote hal4)
  clear hat' hall hrow4 hw4 hbx hal4
  obtain ⟨m, hm⟩ : ∃ m, n = m + 1 := ⟨n - 1, by omega⟩
  subst hm
  simp only [Nat.add_sub_cancel] at d0 d1 d2 d3 d4 d5 d6
  go_wp2_with (fail)
  refine (ih1 _ B b _ _ HA4.out HD4.out (by simp; omega)).mono ?_
  rintro e w5 ⟨rfl, hw5⟩
  have HW5 := Lib.hid hw5; have HD5 := Lib.hid (HD4.out.wrote hw5); clear hw5
  go_wp2_with (fail)
  refine (wr_any B b _ [41] _ rfl _ HD5.out (by simp; omega)).mono ?_
  rintro e w6 ⟨n6, rfl, hw6⟩
  have HW6 := Lib.hid hw6; clear hw6
  go_wp2_with (fail)
  go_end0
  refine ⟨rfl, ?_⟩
  rw [HT.out]
  have := (HALL4.out.trans HW5.out).trans HW6.out
  simpa only [List.append_assoc] using this
end Go.Proofs.YtgnnendcgbijnaaDoor

namespace Go.Proofs.YtgnnendcgbijnaaDoor
open Go.ChangeShapes Go.WideShapes Go.ChangeAt Go.RowKit
set_option linter.unusedVariables false

theorem commas_snoc : ∀ (l : List (List UInt8)) (x : List UInt8), commas (l ++ [x]) = if l = [] then x else commas l ++ [44, 32] ++ x
  | [], x => rfl
  | [a], x => by simp [commas]
  | a :: b :: r, x => by
    have h := commas_snoc (b :: r) x
    simp only [List.cons_append, commas] at h ⊢
    rw [h]; simp
theorem commas_take (l : List (List UInt8)) (k : Nat) (h : k < l.length) : commas (l.take (k + 1)) = if k = 0 then l[k] else commas (l.take k) ++ [44, 32] ++ l[k] := by
  rw [List.take_succ_eq_append_getElem h, commas_snoc]
  by_cases hk : k = 0
  · subst hk; simp
  · rw [if_neg hk, if_neg]
    intro e
    have h1 : (l.take k).length = k := by rw [List.length_take]; omega
    rw [e] at h1
    exact hk h1.symm
theorem commas_le (l : List (List UInt8)) (k : Nat) : (commas (l.take k)).length ≤ (commas l).length := by
  induction l generalizing k with
  | nil => simp
  | cons a r ih =>
    cases k with
    | zero => simp [commas]
    | succ k =>
      cases r with
      | nil => simp [commas]
      | cons b r =>
        cases k with
        | zero => simp [commas]
        | succ k => have := ih (k + 1); simp [commas] at this ⊢; omega
theorem kids_at {w : World} {B : Nat} {kids : List Ex} {kv : Value} (hk : (kids = [] ∧ ∃ a cap, kv = .slice a 0 cap) ∨ (kids ≠ [] ∧ ∃ g o cap, kv = .slice (some ⟨g, o, none⟩) kids.length cap ∧ g < B ∧ kids.length ≤ cap ∧ kids.length ≤ 4611686018427387904 ∧ Ex.Row w (· < B) g o kids)) :
    ∃ a cap, kv = .slice a kids.length cap ∧ kids.length ≤ 4611686018427387904 ∧ (0 < kids.length → ∃ g o, a = some ⟨g, o, none⟩ ∧ g < B ∧ kids.length ≤ cap ∧ Ex.Row w (· < B) g o kids) := by
  rcases hk with ⟨rfl, a, cap, rfl⟩ | ⟨h, g, o, cap, rfl, h1, h2, h3, h4⟩
  · exact ⟨a, cap, rfl, by simp, by simp⟩
  · exact ⟨_, cap, rfl, h3, fun _ => ⟨g, o, rfl, h1, h2, h4⟩⟩

set_option maxHeartbeats 1000000 in
set_option maxRecDepth 100000 in
theorem call_any (kind line col num : Int) (name : List UInt8) (op : Int) (kids : List Ex) (ih : ∀ i (h : i < kids.length), WriteOk kids[i])
    (cs : Array Value) (B b : Nat) (l : List UInt8) (w : World) (hat : (Ex.mk kind line col num name op kids).At w (· < B) cs) (hd : Desk B b l w) (t : List UInt8) (ht : t = name ++ [40] ++ commas (Ex.texts kids) ++ [41]) (hlen : l.length + t.length ≤ 140737488355328) :
    Calls Tryd.prog 25 #[.agg cs, .pointer (some ⟨b, 0, none⟩)] w (WritePost B b (l ++ t) w) := by
  unfold Ex.At at hat
  obtain ⟨_, hop, kv, rfl, _, hk⟩ := hat
  obtain ⟨a, cap, rfl, hmax, hrow⟩ := kids_at hk
  rw [ht] at hlen
  simp only [List.length_append, List.length_cons, List.length_nil] at hlen
  have hcl := fun k => commas_le (Ex.texts kids) k
  have htl := Ex.texts_length kids
  have HTL := Lib.hid htl; have HCL := Lib.hid hcl
  have HT := Lib.hid ht; have HRR := Lib.hid hrow; have HIH := Lib.hid ih
  have HD := Lib.hid hd
  clear hd ht hk hrow hop hcl htl ih
  have hBw := HD.out.le
  generalize hn : kids.length = n at hmax
  have HN := Lib.hid hn
  clear hn
  unfold cells7
  go_enter Tryd.func25, Tryd.ntmps25
  go_wp2_with (fail)
  refine (wr_any B b l (name ++ [40]) _ (by simp) _ (HD.out.wrote (HD.out.alloc _)) (by simp; omega)).mono ?_
  rintro e w1 ⟨n1, rfl, hw1⟩
  have hbx := box_at (w := w.alloc (.cells (cells7 kind line col num name op (.slice a n cap)) 51)) (k := w.heap.size) (alloc_heap _ _) (Nat.ne_of_gt HD.out.ne) hw1.kept
  obtain ⟨c0, c1, c2, c3, c4, c5, c6⟩ := own7 hbx
  have hall := (HD.out.alloc (.cells (cells7 kind line col num name op (.slice a n cap)) 51)).trans hw1
  have HALL := Lib.hid hall
  clear hall hw1 hbx
  go_wp2_with (fail)
  go_loopw [14] (fun i wr => ∃ k : Nat, k ≤ n ∧ i = .int .i64 k ∧ Wrote B b (Lib.byteCells (l ++ (name ++ [40]) ++ commas ((Ex.texts kids).take k))) w wr) (fun i _ => n - (intOf i).toNat)
  case atStart => exact ⟨0, Nat.zero_le _, rfl, by simpa [commas] using HALL.out⟩
  case round =>
    obtain ⟨k, hk, rfl, hw⟩ := hrel
    have HW := Lib.hid hw; have HDK := Lib.hid (HD.out.wrote hw)
    clear hw c0 c1 c2 c3 c4 c5 c6
    by_cases hlt : k < n
    · have hkl : k < kids.length := by rw [HN.out]; exact hlt
      obtain ⟨g, o, ha, hg, hcap, hrow⟩ := HRR.out (by omega)
      subst ha
      rw [HN.out] at hcap
      have hct := commas_take (Ex.texts kids) k (by rw [HTL.out]; exact hkl)
      rw [Ex.texts_get kids k hkl] at hct
      have hc1 := HCL.out (k + 1)
      have HCT := Lib.hid hct
      rw [hct] at hc1
      clear hct
      obtain ⟨kind', line', col', num', name', op', ka', kn', kc', hat', d0, d1, d2, d3, d4, d5, d6⟩ := kid_cells (Ex.Row.later HW.out.below g hg o _ hrow) k hkl
      have HA := Lib.hid hat'; have IHK := Lib.hid (HIH.out k hkl)
      clear hat' hrow
      have hal := HDK.out.alloc (.cells (cells7 kind' line' col' num' name' op' (.slice ka' kn' kc')) 51)
      have HAL := Lib.hid hal
      have hdl := HDK.out.wrote hal
      have HDL := Lib.hid hdl
      have hwr := HDK.out.le
      clear hal hdl
      by_cases h0 : k = 0
      · have b0 : decide (0 < k) = false := by simp; omega
        have b1 : decide ((0 : Int) < (k : Int)) = false := by simp; omega
        rw [if_pos h0] at hc1
        have HC0 := Lib.hid (show commas ((Ex.texts kids).take (k + 1)) = commas ((Ex.texts kids).take k) ++ kids[k].text by
          rw [HCT.out, if_pos h0]
          have hz : (Ex.texts kids).take k = [] := by rw [h0]; rfl
          rw [hz]; rfl)
        have HZ := Lib.hid (show (commas ((Ex.texts kids).take k)).length = 0 by rw [h0]; rfl)
        clear h0
        go_wp2_with (fail)
        refine (IHK.out _ B b _ _ (Ex.At.later HAL.out.below _ _ HA.out) HDL.out (by have := HZ.out; simp only [List.length_append, List.length_cons, List.length_nil] at *; omega)).mono ?_
        rintro e w2 ⟨rfl, hw2⟩
        have HW2 := Lib.hid hw2; clear hw2
        go_wp2_with (fail)
        go_roundw
        case rel =>
          refine ⟨k + 1, by omega, by go_num, ?_⟩
          rw [HC0.out, ← List.append_assoc]
          exact (HW.out.trans HAL.out).trans HW2.out
        case measure => simp [intOf]; omega
      · have b0 : decide (0 < k) = true := by simp; omega
        have b1 : decide ((0 : Int) < (k : Int)) = true := by simp; omega
        rw [if_neg h0] at hc1
        simp only [List.length_append, List.length_cons, List.length_nil] at hc1
        have HC0 := Lib.hid (show commas ((Ex.texts kids).take (k + 1)) = commas ((Ex.texts kids).take k) ++ [44, 32] ++ kids[k].text by rw [HCT.out, if_neg h0])
        clear h0
        go_wp2_with (fail)
        refine (wr_any B b _ [44, 32] ⟨#[44, 32]⟩ rfl _ HDL.out (by simp only [List.length_append, List.length_cons, List.length_nil] at *; omega)).mono ?_
        rintro e w2 ⟨n2, rfl, hw2⟩
        have hbx := box_at (w := wr.alloc (.cells (cells7 kind' line' col' num' name' op' (.slice ka' kn' kc')) 51)) (k := wr.heap.size) (alloc_heap _ _) (Nat.ne_of_gt HDK.out.ne) hw2.kept
        obtain ⟨c0, c1, c2, c3, c4, c5, c6⟩ := own7 hbx
        have HW2 := Lib.hid hw2; have HD2 := Lib.hid (HDL.out.wrote hw2); clear hw2 hbx d0 d1 d2 d3 d4 d5 d6
        go_wp2_with (fail)
        refine (IHK.out _ B b _ _ (Ex.At.later (HAL.out.below.trans HW2.out.below) _ _ HA.out) HD2.out (by simp only [List.length_append, List.length_cons, List.length_nil] at *; omega)).mono ?_
        rintro e w3 ⟨rfl, hw3⟩
        have HW3 := Lib.hid hw3; clear hw3
        go_wp2_with (fail)
        go_roundw
        case rel =>
          refine ⟨k + 1, by omega, by go_num, ?_⟩
          rw [HC0.out, ← List.append_assoc, ← List.append_assoc]
          exact ((HW.out.trans HAL.out).trans HW2.out).trans HW3.out
        case measure => simp [intOf]; omega
    · obtain rfl : n = k := by omega
      have HC0 := Lib.hid (show (Ex.texts kids).take n = Ex.texts kids from List.take_of_length_le (by rw [HTL.out, HN.out]; exact Nat.le_refl _))
      go_wp2_with (fail)
      refine (wr_any B b _ [41] _ rfl _ HDK.out (by have := HCL.out n; simp only [List.length_append, List.length_cons, List.length_nil] at *; omega)).mono ?_
      rintro e w2 ⟨n2, rfl, hw2⟩
      have HW2 := Lib.hid hw2; clear hw2
      go_wp2_with (fail)
      go_end0
      refine ⟨rfl, ?_⟩
      have := HW.out.trans HW2.out
      rw [HC0.out] at this
      rw [HT.out]
      simpa only [List.append_assoc] using this
end Go.Proofs.YtgnnendcgbijnaaDoor

namespace Go.Proofs.YtgnnendcgbijnaaDoor
open Go.ChangeShapes Go.WideShapes Go.ChangeAt Go.RowKit
set_option linter.unusedVariables false

set_option maxHeartbeats 1000000 in
set_option maxRecDepth 100000 in
theorem write_call (line col num : Int) (name : List UInt8) (op : Int) (kids : List Ex) (ih : ∀ i (h : i < kids.length), WriteOk kids[i]) : WriteOk (.mk 5 line col num name op kids) := by
  intro cs B b l w hat hd hlen
  have HAT := Lib.hid hat
  unfold Ex.At at hat
  obtain ⟨_, _, kv, rfl, _, hk⟩ := hat
  clear hk
  have ht : (Ex.mk 5 line col num name op kids).text = name ++ [40] ++ commas (Ex.texts kids) ++ [41] := by rw [Ex.text_mk]; unfold textOf; rw [if_neg (by decide), if_neg (by decide), if_neg (by decide), if_pos rfl]
  rw [ht] at hlen ⊢
  have HD := Lib.hid hd; have HIH := Lib.hid ih; clear hd ht ih
  unfold cells7
  go_enter Tryd.func13, Tryd.ntmps13
  go_wp2_with (fail)
  refine (call_any 5 line col num name op kids HIH.out _ B b l _ (Ex.At.later (HD.out.alloc _).below _ _ HAT.out) (HD.out.wrote (HD.out.alloc _)) _ rfl hlen).mono ?_
  rintro e w' ⟨rfl, hw⟩
  have HW := Lib.hid hw; clear hw
  go_wp2_with (fail)
  go_end0
  exact ⟨rfl, (HD.out.alloc _).trans HW.out⟩

set_option maxHeartbeats 1000000 in
set_option maxRecDepth 100000 in
theorem write_pair (kind line col num : Int) (name : List UInt8) (op : Int) (kids : List Ex) (hne : 0 < kids.length) (h1 : (kind == 1) = false) (h2 : (kind == 2) = false) (h3 : (kind == 3) = false) (h4 : (kind == 4) = false) (h5 : (kind == 5) = false) (h9 : (kind == 9) = false)
    (ih : ∀ i (h : i < kids.length), WriteOk kids[i]) : WriteOk (.mk kind line col num name op kids) := by
  intro cs B b l w hat hd hlen
  have HAT := Lib.hid hat
  unfold Ex.At at hat
  obtain ⟨_, _, kv, rfl, _, hk⟩ := hat
  obtain ⟨a, cap, rfl, hmax, _⟩ := kids_at hk
  clear hk
  have hz : ((kids.length : Int) == 0) = false := beq_eq_false_iff_ne.mpr (by omega)
  have ht : (Ex.mk kind line col num name op kids).text = ([40] : List UInt8) ++ kids[0].text ++ [32] ++ betweenL kind op ++ [32] ++ kids[kids.length - 1].text ++ [41] := by
    have e0 : (Ex.texts kids).headD [] = kids[0].text := by
      rw [← Ex.texts_get kids 0 hne, List.headD_eq_head?_getD, List.head?_eq_getElem?, List.getElem?_eq_getElem (by rw [Ex.texts_length]; exact hne)]; rfl
    have e1 : (Ex.texts kids).getLastD [] = kids[kids.length - 1].text := by
      rw [← Ex.texts_get kids (kids.length - 1) (by omega), List.getLastD_eq_getLast?, List.getLast?_eq_getElem?, List.getElem?_eq_getElem (by rw [Ex.texts_length]; omega)]
      simp [Ex.texts_length]
    rw [Ex.text_mk]; unfold textOf
    rw [if_neg (by simpa using h1), if_neg (by simpa using h2), if_neg (by simpa using h3), if_neg (by simpa using h5), if_neg (by rw [texts_nil]; intro e; rw [e] at hne; simp at hne), if_neg (by simpa using h4), if_neg (by simpa using h9), e0, e1]
  rw [ht] at hlen ⊢
  have HD := Lib.hid hd; have HIH := Lib.hid ih; clear hd ht ih
  unfold cells7
  go_enter Tryd.func13, Tryd.ntmps13
  go_wp2_with (fail)
  refine (pair_any kind line col num name op kids hne (HIH.out _ _) (HIH.out _ _) _ B b l _ (Ex.At.later (HD.out.alloc _).below _ _ HAT.out) (HD.out.wrote (HD.out.alloc _)) _ rfl hlen).mono ?_
  rintro e w' ⟨rfl, hw⟩
  have HW := Lib.hid hw; clear hw
  go_wp2_with (fail)
  go_end0
  exact ⟨rfl, (HD.out.alloc _).trans HW.out⟩

theorem write_size : ∀ (n : Nat) (e : Ex), e.size ≤ n → WriteOk e := by
  intro n
  induction n with
  | zero => intro e h; cases e; simp [Ex.size] at h
  | succ n ih =>
    rintro ⟨kind, line, col, num, name, op, kids⟩ h
    have hs : Ex.sizes kids ≤ n := by simp [Ex.size] at h; omega
    have hk : ∀ i (h : i < kids.length), WriteOk kids[i] := fun i h => ih _ (Nat.le_trans (Ex.sizes_get kids i h) hs)
    by_cases h1 : kind = 1
    · subst h1; exact write_num _ _ _ _ _ _
    by_cases h2 : kind = 2
    · subst h2; exact write_truth _ _ _ _ _ _
    by_cases h3 : kind = 3
    · subst h3; exact write_var _ _ _ _ _ _
    by_cases h5 : kind = 5
    · subst h5; exact write_call _ _ _ _ _ _ hk
    by_cases h0 : kids = []
    · subst h0; exact write_none _ _ _ _ _ _ (by simpa using h1) (by simpa using h2) (by simpa using h3) (by simpa using h5)
    obtain ⟨k0, r, rfl⟩ := List.exists_cons_of_ne_nil h0
    by_cases h4 : kind = 4
    · subst h4; exact write_index _ _ _ _ _ _ _ (hk 0 (by simp))
    by_cases h9 : kind = 9
    · subst h9; exact write_not _ _ _ _ _ _ _ (hk 0 (by simp))
    exact write_pair _ _ _ _ _ _ _ (by simp) (by simpa using h1) (by simpa using h2) (by simpa using h3) (by simpa using h4) (by simpa using h5) (by simpa using h9) hk
theorem write_any (e : Ex) : WriteOk e := write_size _ e (Nat.le_refl _)

/-- The tables, where a call begins. -/
structure Ground (w : World) : Prop where
  signs : Signs w
  pow : Lib.TabIs Tryd.prog w "internal/strconv.uint64pow10" .u64 Lib.pow10Tab

set_option maxHeartbeats 1000000 in
set_option maxRecDepth 100000 in
theorem text_any (ex : Ex) (cs : Array Value) (w : World) (hg : Ground w) (hat : ex.At w (· < w.heap.size) cs) (hlen : ex.text.length ≤ 140737488355328) :
    Calls Tryd.prog 10 #[.agg cs] w fun e w' => e = .returned (.string ⟨ex.text.toArray⟩) ∧ Below w.heap.size w w' := by
  obtain ⟨kind, line, col, num, name, op, ka, kn, kc, rfl⟩ := hat.cells
  have HG := Lib.hid hg; have HAT := Lib.hid hat
  clear hg hat
  unfold cells7
  go_enter Tryd.func10, Tryd.ntmps10
  go_wp2_with (fail)
  have hw0 : w.grownBy ((w.alloc (.cells (cells7 kind line col num name op (.slice ka kn kc)) 51)).alloc (.cells #[.pointer none, .slice none 0 0] 63)) none :=
    ⟨rfl, rfl, rfl, by simp; omega, fun k hk _ => by rw [Below.heap_alloc _ _ _ (by simp; omega), Below.heap_alloc _ _ _ hk]⟩
  have hb0 := below_grown hw0 (Nat.le_refl _)
  have hd : Desk w.heap.size (w.heap.size + 1) [] ((w.alloc (.cells (cells7 kind line col num name op (.slice ka kn kc)) 51)).alloc (.cells #[.pointer none, .slice none 0 0] 63)) := by
    refine ⟨.inl ⟨by omega, .slice none 0 0, ?_, ⟨rfl, .inl ⟨rfl, rfl⟩⟩, by simp [Value.ownBlock]⟩, hw0.size, HG.out.signs.1, HG.out.signs.later HG.out.signs.1 hb0, fun w'' hb => (Lib.tabBelow_of_tabIs HG.out.pow) w'' (hb0.trans hb)⟩
    have := heap_alloc_new (w.alloc (.cells (cells7 kind line col num name op (.slice ka kn kc)) 51)) (.cells #[.pointer none, .slice none 0 0] 63)
    rwa [show (w.alloc (.cells (cells7 kind line col num name op (.slice ka kn kc)) 51)).heap.size = w.heap.size + 1 by simp] at this
  have HD := Lib.hid hd; have HB0 := Lib.hid hb0
  clear hd hb0 hw0
  refine (write_any ex _ w.heap.size (w.heap.size + 1) [] _ (Ex.At.later HB0.out _ _ HAT.out) HD.out (by simpa using hlen)).mono ?_
  rintro e w1 ⟨rfl, hw1⟩
  rw [List.nil_append] at hw1
  have HD1 := Lib.hid (HD.out.wrote hw1); have HW1 := Lib.hid hw1
  clear hw1
  go_wp2_with (fail)
  refine (Tryd.Builder_String_any_k w.heap.size (w.heap.size + 1) ex.text _ HD1.out.is HD1.out.le).mono ?_
  rintro e w2 ⟨rfl, _, hb2, _⟩
  have HB2 := Lib.hid hb2; clear hb2
  go_wp2_with (fail)
  go_ret
  exact ⟨rfl, (HB0.out.trans HW1.out.below).trans HB2.out⟩

theorem Ground.later {w w' : World} (h : Ground w) (hb : Below w.heap.size w w') : Ground w' :=
  ⟨h.signs.later h.signs.1 hb, Lib.tabBelow_of_tabIs h.pow w' hb⟩

end Go.Proofs.YtgnnendcgbijnaaDoor
