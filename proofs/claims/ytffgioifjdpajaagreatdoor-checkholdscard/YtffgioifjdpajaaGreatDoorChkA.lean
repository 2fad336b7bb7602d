/-
  The checker's memory: its maps of names, its block.
-/
import Derived.Test.YtffgioifjdpajaaGreatDoorChkM
import Derived.Maps.OwnSet
namespace Go.Proofs.YtffgioifjdpajaaGreatDoor
open Go.ChangeShapes Go.WideShapes Go.ChangeAt Go.RowKit
set_option linter.unusedVariables false

theorem strKeyed : Maps.Keyed Tryz.prog 9 := Maps.string_keyed Tryz.underlying9
theorem zInt (w : World) : (zeroValue 3).run Tryz.prog w = .ok (.int .i64 0) w := by kernel_rfl
theorem zType (w : World) : (zeroValue 82).run Tryz.prog w = .ok (.int .i64 0) w := by kernel_rfl
theorem uType : Tryz.prog.underlying 82 = some (.int .i64) := by kernel_rfl
/-- An element type that is a word. -/
structure WordE (e : TypeId) : Prop where
  under : Tryz.prog.underlying e = some (.int .i64)
  zero : ∀ w, (zeroValue e).run Tryz.prog w = .ok (.int .i64 0) w
theorem wInt : WordE 3 := ⟨Tryz.underlying3, zInt⟩
theorem wType : WordE 82 := ⟨uType, zType⟩
/-- How many names there are. -/
def nsize : NMap → Nat
  | [] => 0
  | (x, some _) :: m => if (look m x).isSome then nsize m else nsize m + 1
  | (x, none) :: m => if (look m x).isSome then nsize m - 1 else nsize m
/-- Block B is a map from names to words. -/
def NM (e : TypeId) (w : World) (B : Nat) (m : NMap) : Prop :=
  ∃ D : DataW Unit, w.ownsMap Tryz.prog 9 (plainElem Tryz.prog e) B m.length D ∧ Maps.size D = nsize m ∧ ∀ x : List UInt8, Maps.has D (.string x) = (look m x).isSome ∧ D.atKey (.string x) (.lit (.int .i64 0)) = .lit (.int .i64 ((look m x).getD 0))
theorem NM.lt {e : TypeId} {w : World} {B : Nat} {m : NMap} (h : NM e w B m) : B < w.heap.size := by obtain ⟨D, h, _⟩ := h; exact h.lt
theorem NM.keep {e : TypeId} {w w' : World} {B : Nat} {m : NMap} (h : NM e w B m) (hb : w'.heap[B]? = w.heap[B]?) : NM e w' B m := by
  obtain ⟨D, ⟨es, clock, h1, h2, h3, h4⟩, h5⟩ := h
  exact ⟨D, ⟨es, clock, hb.trans h1, h2, h3, h4⟩, h5⟩
theorem nm_made (e : TypeId) (w : World) : NM e (w.alloc (.map #[] 0)) w.heap.size [] :=
  ⟨.map [], World.ownsMap_made w _ _ _, rfl, fun x => ⟨rfl, rfl⟩⟩
theorem key_str {x : List UInt8} (hx : x.length ≤ maxLen) : keyOf Tryz.prog 9 (.string ⟨x.toArray⟩) = some (.string x) := by
  rw [WideMaps.keyOf_string_mk Tryz.underlying9 (by simpa [ByteArray.size] using hx)]
theorem NM.look {T e : TypeId} {w : World} {B : Nat} {m : NMap} (he : WordE e) (ht : Tryz.prog.underlying T = some (.map 9 e)) (h : NM e w B m) {x : List UInt8} (hx : x.length ≤ maxLen) :
    (Instr.lookup T (.map (some B)) (.string ⟨x.toArray⟩) true).run Tryz.prog w = .ok (.tuple #[.int .i64 ((look m x).getD 0), .bool (look m x).isSome]) w := by
  obtain ⟨D, hown, hsz, hD⟩ := h
  obtain ⟨v, ps, hrun, hv⟩ := hown.look_ok strKeyed ht (he.zero w) (plainElem_int he.under (by decide)) (key_str hx)
  rw [(hD x).2] at hv
  obtain ⟨a, rfl, hz, _⟩ := plainElem_int_inv he.under hv
  rw [(hD x).1] at hrun
  have : a = (Go.Proofs.YtffgioifjdpajaaGreatDoor.look m x).getD 0 := by
    have := congrArg Prod.fst hz
    simpa using this.symm
  rw [← this]
  exact hrun
theorem key_lit (x : List UInt8) (hx : x.length ≤ maxLen) : WideAt.IsKeyLit (.string x) := by
  exact strKeyed.key (key_str hx)
theorem NM.put {T e : TypeId} {w : World} {B : Nat} {m : NMap} (he : WordE e) (ht : Tryz.prog.underlying T = some (.map 9 e)) (h : NM e w B m) (hn : m.length < maxLen) {x : List UInt8} (hx : x.length ≤ maxLen) {v : Int} (hv : (Lit.int .i64 v).wf = true) :
    ∃ w', (Instr.mapUpdate T (.map (some B)) (.string ⟨x.toArray⟩) (.int .i64 v)).run Tryz.prog w = .ok () w' ∧ NM e w' B ((x, some v) :: m) ∧ w.grownBy w' (some B) := by
  obtain ⟨D, hown, hsz, hD⟩ := h
  obtain ⟨w', hrun, h1, h2⟩ := hown.update strKeyed ht hn (key_str hx) (plainElem_int he.under hv)
  refine ⟨w', hrun, ⟨_, h1, by rw [Maps.size_put (hown.tidy strKeyed), (hD x).1, hsz]; simp only [nsize], fun y => ?_⟩, h2⟩
  by_cases e : x = y
  · subst e
    rw [Maps.has_put_same hown.isMap (key_lit x hx), Maps.atKey_put_same hown.isMap (key_lit x hx)]
    simp [Go.Proofs.YtffgioifjdpajaaGreatDoor.look]
  · have hne : (Lit.string y) ≠ .string x := fun q => e (Lit.string.inj q).symm
    rw [Maps.has_put_other hne, Maps.atKey_put_other hne]
    simp only [Go.Proofs.YtffgioifjdpajaaGreatDoor.look, if_neg e]
    exact hD y
theorem NM.del {T e : TypeId} {w : World} {B : Nat} {m : NMap} (ht : Tryz.prog.underlying T = some (.map 9 e)) (h : NM e w B m) {x : List UInt8} (hx : x.length ≤ maxLen) (ty : TypeId) :
    ∃ w', (Builtin.delete_ #[T, 9] ty #[.map (some B), .string ⟨x.toArray⟩]).run Tryz.prog w = .ok (.tuple #[]) w' ∧ NM e w' B ((x, none) :: m) ∧ w.grownBy w' (some B) := by
  obtain ⟨D, hown, hsz, hD⟩ := h
  obtain ⟨w', hrun, h1, h2⟩ := hown.drop strKeyed ht (key_str hx) ty
  refine ⟨w', hrun, ⟨_, h1.mono (Nat.le_succ _), by
    have := Maps.size_del (k := .string x) (hown.tidy strKeyed)
    rw [(hD x).1, hsz] at this
    simp only [nsize]
    split at this <;> rename_i hq <;> simp only [hq] <;> simp <;> omega, fun y => ?_⟩, h2.grown⟩
  by_cases e : x = y
  · subst e
    rw [Maps.has_del_same, Maps.atKey_del_same]
    simp [Go.Proofs.YtffgioifjdpajaaGreatDoor.look]
  · have hne : (Lit.string y) ≠ .string x := fun q => e (Lit.string.inj q).symm
    rw [Maps.has_del_other hne, Maps.atKey_del_other hne]
    simp only [Go.Proofs.YtffgioifjdpajaaGreatDoor.look, if_neg e]
    exact hD y
theorem NM.len {T e : TypeId} {w : World} {B : Nat} {m : NMap} (ht : Tryz.prog.underlying T = some (.map 9 e)) (h : NM e w B m) (ty : TypeId) : (Builtin.len_ #[T] ty #[.map (some B)]).run Tryz.prog w = .ok (.int .i64 (nsize m)) w := by
  obtain ⟨D, hown, hsz, _⟩ := h
  rw [← hsz]
  exact hown.len ht ty
/-- Only blocks of X have turned; new ones may be there. -/
structure Turn (X : Nat → Prop) (w w' : World) : Prop where
  os : w'.os = w.os
  tape : w'.tape = w.tape
  output : w'.output = w.output
  size : w.heap.size ≤ w'.heap.size
  block : ∀ k, k < w.heap.size → ¬ X k → w'.heap[k]? = w.heap[k]?
theorem Turn.refl (X : Nat → Prop) (w : World) : Turn X w w := ⟨rfl, rfl, rfl, Nat.le_refl _, fun _ _ _ => rfl⟩
theorem Turn.trans {X : Nat → Prop} {a b c : World} (h : Turn X a b) (k : Turn X b c) : Turn X a c :=
  ⟨k.os.trans h.os, k.tape.trans h.tape, k.output.trans h.output, Nat.le_trans h.size k.size, fun q hq hx => (k.block q (Nat.lt_of_lt_of_le hq h.size) hx).trans (h.block q hq hx)⟩
theorem Turn.mono {X Y : Nat → Prop} {w w' : World} (h : Turn X w w') (hxy : ∀ k, X k → Y k) : Turn Y w w' := ⟨h.os, h.tape, h.output, h.size, fun k hk hy => h.block k hk (fun hx => hy (hxy k hx))⟩
theorem Turn.grown {X : Nat → Prop} {w w' : World} {r : Option Nat} (h : w.grownBy w' r) (hr : ∀ k, r = some k → X k) : Turn X w w' := ⟨h.os, h.tape, h.output, h.size, fun k hk hx => h.block k hk (fun e => hx (hr k e.symm))⟩
theorem Turn.alloc {X : Nat → Prop} {w w' : World} (h : Turn X w w') (o : Obj) : Turn X w (w'.alloc o) := h.trans (Turn.grown (grown_alloc w' o) (fun _ q => by cases q))
theorem Turn.put {X : Nat → Prop} {w w' : World} (h : Turn X w w') (b j : Nat) (v : Value) (hb : X b ∨ w.heap.size ≤ b) : Turn X w (w'.setCell ⟨b, j, none⟩ v) :=
  ⟨h.os, h.tape, h.output, by have := h.size; simpa using this, fun k hk hx => (Below.heap_setCell _ _ _ _ (by
    show k ≠ b
    rcases hb with hb | hb
    · intro q; subst q; exact hx hb
    · omega)).trans (h.block k hk hx)⟩
theorem Turn.cell {X : Nat → Prop} {w w' : World} (h : Turn X w w') {q : Nat} (hq : q < w.heap.size) (hx : ¬ X q) (o : Nat) : w'.cell? ⟨q, o, none⟩ = w.cell? ⟨q, o, none⟩ := World.cell?_of_block (h.block q hq hx)
/-- The locals: none yet, or a map. -/
def LM (w : World) (lv : Value) (m : NMap) : Prop := (lv = .map none ∧ m = []) ∨ ∃ L, lv = .map (some L) ∧ NM 82 w L m
/-- The checker's eight cells. -/
def cellsK (gv fv : Value) (G F : Nat) (lv : Value) (k : Ck) : Array Value := #[gv, fv, .map (some G), .map (some F), lv, .int .i64 k.err, .int .i64 k.line, .int .i64 k.col]
/-- Block C is the checker: the trees lie below base, its own blocks do not. -/
structure Checks (base C G F : Nat) (lv : Value) (k : Ck) (w : World) : Prop where
  blk : ∃ gv fv, w.heap[C]? = some (.cells (cellsK gv fv G F lv k) 71 (0, 0)) ∧ GlsAt w (· < base) k.gs gv ∧ FnsAt w (· < base) k.fs fv
  gm : NM 3 w G k.gm
  fm : NM 3 w F k.fm
  lm : LM w lv k.lm
  low : base ≤ C ∧ base ≤ G ∧ base ≤ F ∧ ∀ L, lv = .map (some L) → base ≤ L ∧ L ≠ G ∧ L ≠ F
  gf : G ≠ F
  gi : ∀ x i, look k.gm x = some i → ∃ j : Nat, i = j ∧ j < k.gs.length
  fi : ∀ x i, look k.fm x = some i → ∃ j : Nat, i = j ∧ j < k.fs.length
theorem map_ne {e : TypeId} {w : World} {B C : Nat} {m : NMap} {cs : Array Value} {t : TypeId} {z : Nat × Nat} (h : NM e w B m) (hc : w.heap[C]? = some (.cells cs t z)) : B ≠ C := by
  obtain ⟨D, ⟨es, clock, h1, _⟩, _⟩ := h
  intro q; subst q; rw [h1] at hc; cases hc
/-- Nothing of the checker's has turned. -/
theorem Checks.keep {base C G F : Nat} {lv : Value} {k : Ck} {w w' : World} (h : Checks base C G F lv k w) {X : Nat → Prop} (ht : Turn X w w') (hX : ∀ q, X q → base ≤ q ∧ q ≠ C ∧ q ≠ G ∧ q ≠ F ∧ lv ≠ .map (some q)) : Checks base C G F lv k w' := by
  obtain ⟨⟨gv, fv, hb, h1, h2⟩, h3, h4, h5, h6, h7, h8, h9⟩ := h
  have hcl := (Array.getElem?_eq_some_iff.1 hb).1
  have hk : ∀ g, g < base → g < w.heap.size → ∀ o, w'.cell? ⟨g, o, none⟩ = w.cell? ⟨g, o, none⟩ := fun g hg hl o => ht.cell hl (fun q => by have := (hX g q).1; omega) o
  refine ⟨⟨gv, fv, (ht.block C hcl (fun q => (hX C q).2.1 rfl)).trans hb, h1.keep ht.size (fun g hg _ => hg) hk, h2.keep ht.size (fun g hg _ => hg) hk⟩, h3.keep (ht.block G h3.lt (fun q => (hX G q).2.2.1 rfl)), h4.keep (ht.block F h4.lt (fun q => (hX F q).2.2.2.1 rfl)), ?_, h6, h7, h8, h9⟩
  rcases h5 with h5 | ⟨L, rfl, h5⟩
  · exact .inl h5
  · exact .inr ⟨L, rfl, h5.keep (ht.block L h5.lt (fun q => (hX L q).2.2.2.2 rfl))⟩
end Go.Proofs.YtffgioifjdpajaaGreatDoor
