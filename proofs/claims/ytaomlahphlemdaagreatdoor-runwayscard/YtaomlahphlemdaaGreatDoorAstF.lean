/-
  Trees, as Go's memory holds them, and as text; what the small functions of ast do.
-/
import Derived.Test.YtaomlahphlemdaaGreatDoorRows
import Derived.Test.YtaomlahphlemdaaGreatDoorShelf
import Derived.Lib.OthersKept
import Derived.Lib.FrozenHead
import Derived.WalkKit
import Derived.ProofKit
import Derived.OpenShut
import Derived.Lib.Hide
import Derived.Deep.QuietTactic
import Derived.BigQuiet
import Derived.Lib.AppendIntMem
import Derived.Sort.Grow
import Derived.Lib.Small
namespace Go.Proofs.YtaomlahphlemdaaGreatDoor
open Go.ChangeShapes Go.WideShapes Go.ChangeAt Go.RowKit
set_option linter.unusedVariables false

/-- An expression. -/
inductive Ex where
  | mk (kind line col num : Int) (name : List UInt8) (op : Int) (kids : List Ex)

def signsAll : List (List UInt8) := [[43], [45], [42], [47], [37], [38], [124], [94], [60, 60], [62, 62], [61, 61], [33, 61], [60], [60, 61]]
def signL (o : Int) : List UInt8 := if o < 1 ∨ 14 < o then [] else signsAll.getD (o - 1).toNat []
def betweenL (kind op : Int) : List UInt8 := if kind = 7 then [38, 38] else if kind = 8 then [124, 124] else signL op
/-- Texts with ", " between. -/
def commas : List (List UInt8) → List UInt8
  | [] => []
  | [x] => x
  | x :: y :: r => x ++ [44, 32] ++ commas (y :: r)
/-- An expression's text, of its kids' texts. -/
def textOf (kind num : Int) (name : List UInt8) (op : Int) (ks : List (List UInt8)) : List UInt8 :=
  if kind = 1 then Lib.itoa num
  else if kind = 2 then Lib.formatBool (num != 0)
  else if kind = 3 then name
  else if kind = 5 then name ++ [40] ++ commas ks ++ [41]
  else if ks = [] then [63]
  else if kind = 4 then name ++ [91] ++ ks.headD [] ++ [93]
  else if kind = 9 then [33] ++ ks.headD []
  else [40] ++ ks.headD [] ++ [32] ++ betweenL kind op ++ [32] ++ ks.getLastD [] ++ [41]

mutual
def Ex.text : Ex → List UInt8
  | .mk kind _ _ num name op kids => textOf kind num name op (Ex.texts kids)
def Ex.texts : List Ex → List (List UInt8)
  | [] => []
  | e :: r => e.text :: Ex.texts r
end
mutual
def Ex.size : Ex → Nat
  | .mk _ _ _ _ _ _ kids => 1 + Ex.sizes kids
def Ex.sizes : List Ex → Nat
  | [] => 0
  | e :: r => e.size + Ex.sizes r
end
theorem Ex.texts_length : ∀ l : List Ex, (Ex.texts l).length = l.length
  | [] => rfl
  | e :: r => by simp [Ex.texts, Ex.texts_length r]
theorem Ex.texts_get : ∀ (l : List Ex) (i : Nat) (h : i < l.length), (Ex.texts l)[i]'(by rw [Ex.texts_length]; exact h) = (l[i]).text
  | e :: r, 0, _ => rfl
  | e :: r, i + 1, h => by simpa [Ex.texts] using Ex.texts_get r i (by simpa using h)
theorem Ex.sizes_get : ∀ (l : List Ex) (i : Nat) (h : i < l.length), (l[i]).size ≤ Ex.sizes l
  | e :: r, 0, _ => by simp [Ex.sizes]
  | e :: r, i + 1, h => by have := Ex.sizes_get r i (by simpa using h); simp [Ex.sizes]; omega

def InI64 (n : Int) : Prop := -9223372036854775808 ≤ n ∧ n ≤ 9223372036854775807
def cells7 (kind line col num : Int) (name : List UInt8) (op : Int) (kv : Value) : Array Value :=
  #[.int .i64 kind, .int .i64 line, .int .i64 col, .int .i64 num, .string ⟨name.toArray⟩, .int .i64 op, kv]

/-- An Index's kids have no room behind them. -/
def Tight (kind : Int) (kv : Value) : Prop := kind ≠ 4 ∨ ∃ a n, kv = .slice a n n
mutual
/-- These seven cells are this expression, its kids in memory, in such blocks. -/
def Ex.At (w : World) (S : Nat → Prop) : Ex → Array Value → Prop
  | .mk kind line col num name op kids, cs => InI64 num ∧ InI64 op ∧ ∃ kv, cs = cells7 kind line col num name op kv ∧ Tight kind kv ∧
      ((kids = [] ∧ ∃ a cap, kv = .slice a 0 cap) ∨ (kids ≠ [] ∧ ∃ g o cap, kv = .slice (some ⟨g, o, none⟩) kids.length cap ∧ S g ∧ kids.length ≤ cap ∧ kids.length ≤ 4611686018427387904 ∧ Ex.Row w S g o kids))
/-- From this cell on expressions lie one behind the other. -/
def Ex.Row (w : World) (S : Nat → Prop) (g : Nat) : Nat → List Ex → Prop
  | _, [] => True
  | o, e :: r => (∃ cs, e.At w S cs ∧ ∀ j, j < 7 → w.cell? ⟨g, o + j, none⟩ = cs[j]?) ∧ Ex.Row w S g (o + 7) r
end
theorem Ex.At.cells {w : World} {S : Nat → Prop} : ∀ {e : Ex} {cs : Array Value}, e.At w S cs → ∃ kind line col num name op ka kn kc, cs = cells7 kind line col num name op (.slice ka kn kc)
  | .mk kind line col num name op kids, cs, h => by
    unfold Ex.At at h
    obtain ⟨_, _, kv, rfl, _, h⟩ := h
    rcases h with ⟨_, a, cap, rfl⟩ | ⟨_, g, o, cap, rfl, _⟩ <;> exact ⟨_, _, _, _, _, _, _, _, _, rfl⟩
theorem Ex.Row.lt {w : World} {S : Nat → Prop} {g o : Nat} {e : Ex} {r : List Ex} (h : Ex.Row w S g o (e :: r)) : g < w.heap.size := by
  unfold Ex.Row at h
  obtain ⟨⟨cs, h1, h2⟩, _⟩ := h
  obtain ⟨kind, line, col, num, name, op, ka, kn, kc, rfl⟩ := h1.cells
  exact World.block_lt_of_cell? _ _ (h2 0 (by decide))
mutual
theorem Ex.At.keep {w w' : World} {S S' : Nat → Prop} (hS : ∀ g, S g → g < w.heap.size → S' g) (hk : ∀ g, S g → g < w.heap.size → ∀ o, w'.cell? ⟨g, o, none⟩ = w.cell? ⟨g, o, none⟩) : ∀ (e : Ex) (cs : Array Value), e.At w S cs → e.At w' S' cs
  | .mk kind line col num name op kids, cs, h => by
    unfold Ex.At at h ⊢
    obtain ⟨hn, ho, kv, rfl, ht, h⟩ := h
    refine ⟨hn, ho, kv, rfl, ht, ?_⟩
    rcases h with h | ⟨hne, g, o, cap, rfl, hg, h1, h2, h3⟩
    · exact .inl h
    · have hlt : g < w.heap.size := by
        obtain ⟨e, r, rfl⟩ := List.exists_cons_of_ne_nil hne
        exact h3.lt
      exact .inr ⟨hne, g, o, cap, rfl, hS g hg hlt, h1, h2, Ex.Row.keep hS hk g hg hlt o kids h3⟩
theorem Ex.Row.keep {w w' : World} {S S' : Nat → Prop} (hS : ∀ g, S g → g < w.heap.size → S' g) (hk : ∀ g, S g → g < w.heap.size → ∀ o, w'.cell? ⟨g, o, none⟩ = w.cell? ⟨g, o, none⟩) (g : Nat) (hg : S g) (hlt : g < w.heap.size) : ∀ (o : Nat) (l : List Ex), Ex.Row w S g o l → Ex.Row w' S' g o l
  | _, [], _ => by unfold Ex.Row; trivial
  | o, e :: r, h => by
    unfold Ex.Row at h ⊢
    obtain ⟨⟨cs, h1, h2⟩, h3⟩ := h
    exact ⟨⟨cs, Ex.At.keep hS hk e cs h1, fun j hj => by rw [hk g hg hlt]; exact h2 j hj⟩, Ex.Row.keep hS hk g hg hlt (o + 7) r h3⟩
end
theorem Ex.At.later {w w' : World} {B : Nat} (hb : Below B w w') (e : Ex) (cs : Array Value) (h : e.At w (· < B) cs) : e.At w' (· < B) cs :=
  Ex.At.keep (fun _ h _ => h) (fun g hg _ o => hb.cell (p := ⟨g, o, none⟩) hg) e cs h
theorem Ex.Row.later {w w' : World} {B : Nat} (hb : Below B w w') (g : Nat) (hg : g < B) (o : Nat) (l : List Ex) (h : Ex.Row w (· < B) g o l) : Ex.Row w' (· < B) g o l := by
  cases l with
  | nil => unfold Ex.Row; trivial
  | cons e r => exact Ex.Row.keep (fun _ h _ => h) (fun g hg _ o => hb.cell (p := ⟨g, o, none⟩) hg) g hg h.lt o _ h
theorem Ex.Row.get {w : World} {S : Nat → Prop} {g : Nat} : ∀ (o : Nat) (l : List Ex), Ex.Row w S g o l → ∀ (i : Nat) (h : i < l.length), ∃ cs, (l[i]).At w S cs ∧ ∀ j, j < 7 → w.cell? ⟨g, o + (7 * i + j), none⟩ = cs[j]?
  | o, e :: r, h, 0, _ => by
    unfold Ex.Row at h
    obtain ⟨⟨cs, h1, h2⟩, _⟩ := h
    exact ⟨cs, h1, fun j hj => by rw [Nat.mul_zero, Nat.zero_add]; exact h2 j hj⟩
  | o, e :: r, h, i + 1, hi => by
    unfold Ex.Row at h
    obtain ⟨cs, h1, h2⟩ := Ex.Row.get (o + 7) r h.2 i (by simpa using hi)
    refine ⟨cs, h1, fun j hj => ?_⟩
    have e1 : o + (7 * (i + 1) + j) = o + 7 + (7 * i + j) := by omega
    rw [e1]; exact h2 j hj

/-- The package's tables, as they stand below B. -/
def Signs (w : World) : Prop := 1 < w.heap.size ∧ ∀ j x, signsAll[j]? = some x → w.cell? ⟨1, j, none⟩ = some (.string ⟨x.toArray⟩)
theorem Signs.later {w w' : World} {B : Nat} (h : Signs w) (hB : 1 < B) (hb : Below B w w') : Signs w' :=
  ⟨by have := hb.size; have := h.1; omega, fun j x hj => by rw [hb.cell (p := ⟨1, j, none⟩) hB]; exact h.2 j x hj⟩

theorem grown_alloc (w : World) (o : Obj) : w.grownBy (w.alloc o) none := ⟨rfl, rfl, rfl, by simp, fun k hk _ => Below.heap_alloc w o k hk⟩
theorem grown_grow (w : World) (k : Nat) (os : Array Obj) : w.grownBy (Go.Sort.grow (w.drewN k) os) none :=
  ⟨rfl, rfl, rfl, by simp [Go.Sort.grow], fun j hj _ => by simp [Go.Sort.grow, Array.getElem?_append, hj]⟩
theorem below_grown {B : Nat} {w w' : World} (hg : w.grownBy w' none) (hB : B ≤ w.heap.size) : Below B w w' := (Below.refl B w).grown hg hB (fun k hk => by cases hk)
set_option maxHeartbeats 1000000 in
set_option maxRecDepth 100000 in
theorem sign_any (o : Int) (ho : InI64 o) (w : World) (ht : Signs w) : Calls Tryz.prog 145 #[.int .i64 o] w fun e w' => e = .returned (.string ⟨(signL o).toArray⟩) ∧ w' = w := by
  have HT := Lib.hid ht.2
  obtain ⟨h1, h2⟩ := ho
  by_cases h : o < 1 ∨ 14 < o
  · have hs : signL o = [] := by unfold signL; rw [if_pos h]
    rw [hs]
    clear ht
    go_enter Tryz.func145, Tryz.ntmps145
    rcases h with h | h
    · go_wp2
      go_ret
      exact ⟨rfl, rfl⟩
    · have : ¬ o < 1 := by omega
      go_wp2
      go_ret
      exact ⟨rfl, rfl⟩
  · obtain ⟨k, rfl⟩ : ∃ k : Nat, o = k + 1 := ⟨(o - 1).toNat, by omega⟩
    have hs : signL ((k : Int) + 1) = signsAll.getD k [] := by unfold signL; rw [if_neg h, Int.add_sub_cancel, Int.toNat_natCast]
    have hl : k < signsAll.length := by show k < 14; omega
    have hx : signsAll[k]? = some (signL ((k : Int) + 1)) := by rw [hs, List.getD_eq_getElem?_getD, List.getElem?_eq_getElem hl]; rfl
    have hc := HT.out _ _ hx
    have hl' : k < 14 := hl
    generalize signL ((k : Int) + 1) = x at hc ⊢
    clear hs hx ht h hl h1 h2 HT
    go_enter Tryz.func145, Tryz.ntmps145
    go_wp2
    go_ret
    exact ⟨rfl, rfl⟩

/-- One of several kids, cell by cell. -/
theorem kid_cells {w : World} {S : Nat → Prop} {g o : Nat} {kids : List Ex} (h : Ex.Row w S g o kids) (i : Nat) (hi : i < kids.length) : ∃ kind line col num name op ka kn kc, kids[i].At w S (cells7 kind line col num name op (.slice ka kn kc)) ∧
    w.cell? ⟨g, o + i * 7, none⟩ = some (.int .i64 kind) ∧ w.cell? ⟨g, o + i * 7 + 1, none⟩ = some (.int .i64 line) ∧ w.cell? ⟨g, o + i * 7 + 2, none⟩ = some (.int .i64 col) ∧ w.cell? ⟨g, o + i * 7 + 3, none⟩ = some (.int .i64 num) ∧
    w.cell? ⟨g, o + i * 7 + 4, none⟩ = some (.string ⟨name.toArray⟩) ∧ w.cell? ⟨g, o + i * 7 + 5, none⟩ = some (.int .i64 op) ∧ w.cell? ⟨g, o + i * 7 + 6, none⟩ = some (.slice ka kn kc) := by
  obtain ⟨cs, h1, h2⟩ := h.get o kids i hi
  obtain ⟨kind, line, col, num, name, op, ka, kn, kc, rfl⟩ := h1.cells
  have hc : ∀ j, j < 7 → w.cell? ⟨g, o + i * 7 + j, none⟩ = (cells7 kind line col num name op (.slice ka kn kc))[j]? := fun j hj => by
    have e : o + i * 7 + j = o + (7 * i + j) := by omega
    rw [e]; exact h2 j hj
  exact ⟨kind, line, col, num, name, op, ka, kn, kc, h1, hc 0 (by decide), hc 1 (by decide), hc 2 (by decide), hc 3 (by decide), hc 4 (by decide), hc 5 (by decide), hc 6 (by decide)⟩

/-- The own copy's cells. -/
theorem own7 {w : World} {k : Nat} {kind line col num : Int} {name : List UInt8} {op : Int} {kv : Value} (h : w.heap[k]? = some (.cells (cells7 kind line col num name op kv) 47 (0, 0))) :
    w.cell? ⟨k, 0, none⟩ = some (.int .i64 kind) ∧ w.cell? ⟨k, 1, none⟩ = some (.int .i64 line) ∧ w.cell? ⟨k, 2, none⟩ = some (.int .i64 col) ∧ w.cell? ⟨k, 3, none⟩ = some (.int .i64 num) ∧
    w.cell? ⟨k, 4, none⟩ = some (.string ⟨name.toArray⟩) ∧ w.cell? ⟨k, 5, none⟩ = some (.int .i64 op) ∧ w.cell? ⟨k, 6, none⟩ = some kv := by
  refine ⟨?_, ?_, ?_, ?_, ?_, ?_, ?_⟩ <;> (rw [Lib.cell_of_heap h]; rfl)


/-- What the contracts ask of the package's tables. -/
structure Ground (w : World) : Prop where
  signs : Signs w
theorem Ground.later {w w' : World} {B : Nat} (h : Ground w) (hB : 1 < B) (hb : Below B w w') : Ground w' := ⟨h.signs.later hB hb⟩
end Go.Proofs.YtaomlahphlemdaaGreatDoor
