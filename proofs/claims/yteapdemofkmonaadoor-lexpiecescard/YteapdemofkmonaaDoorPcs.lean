/-
  LexPieces: the walk.
-/
import Derived.Test.YteapdemofkmonaaDoorPlc
import Derived.Test.YteapdemofkmonaaDoorShelf
import Derived.Lib.ItoaLen
import Derived.Lib.AppendIntMem
import Derived.IntWalk
import Derived.Test.YteapdemofkmonaaDoorRegInv
import Derived.Deep.AppendLies
import Derived.Deep.CutBlock
import Derived.BigQuiet
import Derived.Deep.QuietTactic
namespace Go.Proofs.YteapdemofkmonaaDoor
open Go.ChangeShapes Go.WideShapes Go.ChangeAt Go.RowKit
set_option linter.unusedVariables false
open Go.Proofs.YteapdemofkmonaaDoor.RegInv

theorem cat_lists (a b : List UInt8) : (⟨a.toArray⟩ : ByteArray) ++ ⟨b.toArray⟩ = ⟨(a ++ b).toArray⟩ := by ext1; simp [ByteArray.data_append]
theorem size_list (l : List UInt8) : (⟨l.toArray⟩ : ByteArray).size = l.length := by simp [ByteArray.size]
theorem list_of (l : List UInt8) : (⟨l.toArray⟩ : ByteArray).data.toList = l := rfl
theorem lt_heap {w : World} {b : Nat} {o : Obj} (h : w.heap[b]? = some o) : b < w.heap.size := (Array.getElem?_eq_some_iff.1 h).1
theorem cell_ok {w : World} {b : Nat} {cs : Array Value} {t : TypeId} (h : w.heap[b]? = some (.cells cs t (0, 0))) (j : Nat) : w.cell? ⟨b, j, none⟩ = cs[j]? := Lib.cell_of_heap h j
theorem alloc_at (w : World) (o : Obj) (n : Nat) (hn : n = w.heap.size) : (w.alloc o).heap[n]? = some o := by subst hn; exact heap_alloc_new w o
theorem set_block (w : World) (R j : Nat) (cs : Array Value) (v : Value) (t : TypeId) (h : w.heap[R]? = some (.cells cs t (0, 0))) : (w.setCell ⟨R, j, none⟩ v).heap[R]? = some (.cells (cs.setIfInBounds j v) t (0, 0)) := by
  simp [World.setCell, Array.getElem?_modify, h]
/-- A table of texts, as a package's variable. -/
structure TabS (w : World) (gl : Nat) (xs : List (List UInt8)) (b off cap : Nat) : Prop where
  var : w.cell? ⟨gl, 0, none⟩ = some (.slice (some ⟨b, off, none⟩) xs.length cap)
  cells : ∀ j x, xs[j]? = some x → w.cell? ⟨b, off + j, none⟩ = some (.string ⟨x.toArray⟩)
theorem TabS.keep {w w' : World} {gl : Nat} {xs : List (List UInt8)} {b off cap : Nat} (h : TabS w gl xs b off cap) (hb : Below w.heap.size w w') : TabS w' gl xs b off cap :=
  ⟨(World.cell?_of_block (hb.block gl (World.block_lt_of_cell? _ _ h.var))).trans h.var, fun j x hj => (World.cell?_of_block (hb.block b (World.block_lt_of_cell? _ _ (h.cells j x hj)))).trans (h.cells j x hj)⟩
/-- The argument: a slice of three numbers an element. -/
structure PArg (w : World) (L : List (Int × Int × Int)) (a : Option Addr) : Prop where
  at_ : ∀ i k n g, L[i]? = some (k, n, g) → ∃ b off, a = some ⟨b, off, none⟩ ∧ w.cell? ⟨b, off + i * 3, none⟩ = some (.int .i64 k) ∧ w.cell? ⟨b, off + i * 3 + 1, none⟩ = some (.int .i64 n) ∧ w.cell? ⟨b, off + i * 3 + 2, none⟩ = some (.int .i64 g)
theorem PArg.keep {w w' : World} {L : List (Int × Int × Int)} {a : Option Addr} (h : PArg w L a) (hb : Below w.heap.size w w') : PArg w' L a := by
  refine ⟨fun i k n g hi => ?_⟩
  obtain ⟨b, off, rfl, h1, h2, h3⟩ := h.at_ i k n g hi
  have hlt : b < w.heap.size := World.block_lt_of_cell? _ _ h1
  have hk : ∀ j, w'.cell? ⟨b, j, none⟩ = w.cell? ⟨b, j, none⟩ := fun j => World.cell?_of_block (hb.block b hlt)
  exact ⟨b, off, rfl, (hk _).trans h1, (hk _).trans h2, (hk _).trans h3⟩
def nOf (n : Int) : Nat := (n % 65536).toNat
def kOf (k : Int) : Nat := (k % 4).toNat
def gOf (g : Int) : Nat := (g % 18446744073709551616 % 5).toNat
def pcTxt (k n : Nat) : List UInt8 := if k = 0 then nameT n else if k = 1 then Lib.decDigits n else if k = 2 then wordsL.getD (n % 11) [] else marksT.getD (n % 28) []
def pcOf (p : Int × Int × Int) : Pc := ⟨gapsT.getD (gOf p.2.2) [], pcTxt (kOf p.1) (nOf p.2.1), (kOf p.1 : Int) + 1, if kOf p.1 = 1 then (nOf p.2.1 : Int) else 0⟩
theorem nOf_lt (n : Int) : nOf n ≤ 65535 := by unfold nOf; omega
theorem kOf_lt (k : Int) : kOf k < 4 := by unfold kOf; omega
theorem gOf_lt (g : Int) : gOf g < 5 := by unfold gOf; omega
theorem pcOf_ok (p : Int × Int × Int) : (pcOf p).ok := by
  have hg := gOf_lt p.2.2
  have hk := kOf_lt p.1
  have hn := nOf_lt p.2.1
  refine ⟨gap_ok _ ?_, ?_⟩
  · show gapsT.getD (gOf p.2.2) [] ∈ gapsT
    rw [List.getD_eq_getElem?_getD, List.getElem?_eq_getElem (by show gOf p.2.2 < 5; exact hg)]
    exact List.getElem_mem _
  · show TokOk (pcTxt (kOf p.1) (nOf p.2.1)) ((kOf p.1 : Int) + 1) (if kOf p.1 = 1 then (nOf p.2.1 : Int) else 0)
    have h4 : kOf p.1 = 0 ∨ kOf p.1 = 1 ∨ kOf p.1 = 2 ∨ kOf p.1 = 3 := by omega
    rcases h4 with h | h | h | h
    · rw [h]; exact tok_nameT _
    · rw [h]; exact tok_digits _ hn
    · rw [h]
      refine tok_word _ ?_
      have hl : nOf p.2.1 % 11 < 11 := Nat.mod_lt _ (by decide)
      show wordsL.getD (nOf p.2.1 % 11) [] ∈ wordsL
      rw [List.getD_eq_getElem?_getD, List.getElem?_eq_getElem (by exact hl)]
      exact List.getElem_mem _
    · rw [h]
      refine tok_mark _ (marks_are _ ?_)
      have hl : nOf p.2.1 % 28 < 28 := Nat.mod_lt _ (by decide)
      show marksT.getD (nOf p.2.1 % 28) [] ∈ marksT
      rw [List.getD_eq_getElem?_getD, List.getElem?_eq_getElem (by exact hl)]
      exact List.getElem_mem _
theorem pcTxt_len (k n : Nat) (hn : n ≤ 65535) : (pcTxt k n).length ≤ 30 := by
  have h1 : (Lib.decDigits n).length ≤ 20 := by rw [Lib.decDigits_length]; exact Lib.nDigits_le20 n (by omega)
  unfold pcTxt
  split
  · simp [nameT]; omega
  · split
    · omega
    · split
      · have : ∀ j : Fin 11, (wordsL.getD j.val []).length ≤ 30 := by decide
        exact this ⟨n % 11, Nat.mod_lt _ (by decide)⟩
      · have : ∀ j : Fin 28, (marksT.getD j.val []).length ≤ 30 := by decide
        exact this ⟨n % 28, Nat.mod_lt _ (by decide)⟩
theorem gap_len (g : Nat) : (gapsT.getD g []).length ≤ 18 := by
  by_cases h : g < 5
  · have : ∀ j : Fin 5, (gapsT.getD j.val []).length ≤ 18 := by decide
    exact this ⟨g, h⟩
  · rw [List.getD_eq_getElem?_getD, List.getElem?_eq_none (by show 5 ≤ g; omega)]; exact Nat.zero_le _
theorem pcsT_len : ∀ L : List (Int × Int × Int), (pcsT (L.map pcOf)).length ≤ 48 * L.length
  | [] => Nat.le_refl _
  | p :: r => by
    have h1 := pcsT_len r
    have h2 := gap_len (gOf p.2.2)
    have h3 := pcTxt_len (kOf p.1) (nOf p.2.1) (nOf_lt _)
    show ((pcOf p).gap ++ (pcOf p).txt ++ pcsT (r.map pcOf)).length ≤ 48 * (r.length + 1)
    rw [List.length_append, List.length_append]
    show (gapsT.getD (gOf p.2.2) []).length + (pcTxt (kOf p.1) (nOf p.2.1)).length + _ ≤ _
    omega
theorem take_next {α : Type} (L : List α) (j : Nat) (x : α) (h : L[j]? = some x) : L.take (j + 1) = L.take j ++ [x] := by
  rw [List.take_add_one, h]; rfl
/-- What is made so far. -/
structure PW (B : Nat) (w : World) (l : List Tok) (v : Value) (wr : World) : Prop where
  below : Below B w wr
  own : wr.ownsRow B 31 5 v l.length (l.flatMap Tok.cells)
theorem own_keep {w w' : World} {B : Nat} {e : TypeId} {s n : Nat} {v : Value} {xs : List Value} (h : w.ownsRow B e s v n xs) (hk : ∀ q, v.ownBlock = some q → w'.heap[q]? = w.heap[q]?) : w'.ownsRow B e s v n xs := by
  refine ⟨h.1, ?_⟩
  rcases h.2 with hn | ⟨g, cap, cur, rfl, hb, hgg, rest⟩
  · exact .inl hn
  · exact .inr ⟨g, cap, cur, rfl, hb, (hk g rfl).trans hgg, rest⟩
theorem PW.keep {B : Nat} {w wr w' : World} {l : List Tok} {v : Value} (h : PW B w l v wr) (hB : B ≤ wr.heap.size) (hb : Below wr.heap.size wr w') : PW B w l v w' :=
  ⟨h.below.trans (hb.mono hB), own_keep h.own (fun q hq => hb.block q (h.own.lt q hq).2)⟩
theorem infoTok : (Tryd.prog.info? 31).map (fun i => (i.zero, i.size, i.bytes)) = some (some (.agg #[.int .i64 0, .string ⟨#[]⟩, .int .i64 0, .int .i64 0, .int .i64 0]), 5, 48) := by kernel_rfl
theorem tok_len : ∀ l : List Tok, (l.flatMap Tok.cells).length = l.length * 5
  | [] => rfl
  | x :: r => by rw [List.flatMap_cons, List.length_append, tok_len r]; simp [Tok.cells]; omega
theorem and65535 (n : Int) : bits .and .i64 n 65535 = (nOf n : Int) := by
  show IntKind.i64.wrap ((BitVec.ofInt 64 n &&& BitVec.ofInt 64 65535).toNat : Int) = _
  have h16 : (BitVec.ofInt 64 65535).toNat = 65535 := by decide
  have hb : ((BitVec.ofInt 64 n).toNat : Int) = n % 18446744073709551616 := by
    rw [BitVec.toNat_ofInt]
    have e : ((2 ^ 64 : Nat) : Int) = 18446744073709551616 := by decide
    rw [e]; omega
  rw [IntWalk.i64_left, BitVec.toNat_and, h16]
  have e : ∀ x : Nat, x &&& 65535 = x % 65536 := fun x => Nat.and_two_pow_sub_one_eq_mod x 16
  rw [e]
  unfold wrap64 nOf
  omega
theorem and3 (n : Int) : bits .and .i64 n 3 = (kOf n : Int) := by
  show IntKind.i64.wrap ((BitVec.ofInt 64 n &&& BitVec.ofInt 64 3).toNat : Int) = _
  have h16 : (BitVec.ofInt 64 3).toNat = 3 := by decide
  have hb : ((BitVec.ofInt 64 n).toNat : Int) = n % 18446744073709551616 := by
    rw [BitVec.toNat_ofInt]
    have e : ((2 ^ 64 : Nat) : Int) = 18446744073709551616 := by decide
    rw [e]; omega
  rw [IntWalk.i64_left, BitVec.toNat_and, h16]
  have e : ∀ x : Nat, x &&& 3 = x % 4 := fun x => Nat.and_two_pow_sub_one_eq_mod x 2
  rw [e]
  unfold wrap64 kOf
  omega
theorem five {w : World} {b : Nat} {c0 c1 c2 c3 c4 : Value} {t : TypeId} (h : w.heap[b]? = some (.cells #[c0, c1, c2, c3, c4] t (0, 0))) :
    (w.cell? ⟨b, 0, none⟩ = some c0 ∧ w.cell? ⟨b, 1, none⟩ = some c1 ∧ w.cell? ⟨b, 2, none⟩ = some c2 ∧ w.cell? ⟨b, 3, none⟩ = some c3 ∧ w.cell? ⟨b, 4, none⟩ = some c4) ∧ (∀ j, w.frozen? ⟨b, j, none⟩ = false) ∧ b < w.heap.size :=
  ⟨⟨cell_ok h 0, cell_ok h 1, cell_ok h 2, cell_ok h 3, cell_ok h 4⟩, fun j => Lib.frozen_of_heap h j, lt_heap h⟩
theorem below_put {B b : Nat} {w w' : World} (h : Below B w w') (hb : B ≤ b) (j : Nat) (v : Value) : Below B w (w'.setCell ⟨b, j, none⟩ v) :=
  h.trans ⟨rfl, rfl, rfl, by simp, fun k hk => Below.heap_setCell _ _ _ _ (by show k ≠ b; omega)⟩
theorem itoa_any (n : Nat) (hn : n ≤ 65535) (w : World) (htab : Lib.TabIs Tryd.prog w "internal/strconv.uint64pow10" .u64 Lib.pow10Tab) :
    Calls Tryd.prog 6 #[.int .i64 n] w fun e w' => e = .returned (.string ⟨(Lib.decDigits n).toArray⟩) ∧ Below w.heap.size w w' := by
  refine (Tryd.strconv_Itoa n (by omega) (by omega) w htab).mono ?_
  rintro e w' ⟨rfl, k, os, rfl⟩
  exact ⟨by rw [Lib.itoa_nonneg], Lib.below_grow _ w (Nat.le_refl _) k os⟩
theorem u64_mod (a : Int) : IntKind.u64.wrap a = a % 18446744073709551616 := by rw [IntKind.wrap_u64]
theorem rem5 (a : Int) : wrap64 ((IntKind.u64.wrap a).tmod 5) = (gOf a : Int) := by
  rw [u64_mod, Int.tmod_eq_emod_of_nonneg (by omega)]
  unfold wrap64 gOf
  omega
theorem gapcell (w : World) (g : Nat) (hg : g < 5) : (w.alloc (.cells #[.string ⟨#[32]⟩, .string ⟨#[10]⟩, .string ⟨#[9, 32, 13, 10]⟩, .string ⟨#[32, 47, 47, 32, 110, 111, 32, 116, 111, 107, 101, 110, 32, 38, 38, 32, 53, 10]⟩, .string ⟨#[10, 47, 47, 10]⟩] 9)).cell? ⟨w.heap.size, g, none⟩ = some (.string ⟨(gapsT.getD g []).toArray⟩) := by
  rw [cell_ok (alloc_at _ _ _ rfl)]
  have h : g = 0 ∨ g = 1 ∨ g = 2 ∨ g = 3 ∨ g = 4 := by omega
  rcases h with rfl | rfl | rfl | rfl | rfl <;> rfl
theorem tok_one (a : Int) (t : ByteArray) (b c d : Int) : ∀ u ∈ [Value.int .i64 a, .string t, .int .i64 b, .int .i64 c, .int .i64 d], u.oneCell' = true := by
  intro u hu
  simp only [List.mem_cons, List.not_mem_nil, or_false] at hu
  rcases hu with rfl | rfl | rfl | rfl | rfl <;> rfl
theorem PW.app {B : Nat} {w wr w' : World} {l : List Tok} {v v' : Value} (h : PW B w l v wr) (hB : B ≤ wr.heap.size) {k : Nat} (hk : l.length = k) (x : Tok) (hown : w'.ownsRow B 31 5 v' (k + 1) (l.flatMap Tok.cells ++ x.cells)) (hg : wr.grownBy w' v.ownBlock) : PW B w (l ++ [x]) v' w' := by
  subst hk
  refine ⟨h.below.grown hg hB (fun k hk => (h.own.lt k hk).1), ?_⟩
  rw [List.length_append, List.flatMap_append]
  simpa using hown
theorem PW.own' {B : Nat} {w wr : World} {l : List Tok} {v : Value} (h : PW B w l v wr) {k : Nat} (hk : l.length = k) : wr.ownsRow B 31 5 v k (l.flatMap Tok.cells) := by subst hk; exact h.own
/-- Tokens, one by one, where they lie. -/
def Lie (w : World) (g : Nat) (l : List Tok) : Prop := ∀ i t, l[i]? = some t → w.cell? ⟨g, i * 5, none⟩ = some (.int .i64 t.kind) ∧ w.cell? ⟨g, i * 5 + 1, none⟩ = some (.string ⟨t.text.toArray⟩) ∧ w.cell? ⟨g, i * 5 + 2, none⟩ = some (.int .i64 t.num) ∧ w.cell? ⟨g, i * 5 + 3, none⟩ = some (.int .i64 t.line) ∧ w.cell? ⟨g, i * 5 + 4, none⟩ = some (.int .i64 t.col)
theorem PW.toks {B : Nat} {w wr : World} {l : List Tok} {g n cap : Nat} (h : PW B w l (.slice (some ⟨g, 0, none⟩) n cap) wr) : Lie wr g l := by
  intro i t ht
  have hc := h.own.cells (g := g) rfl
  have add : ∀ j, (⟨g, 0, none⟩ : Addr).add j = ⟨g, j, none⟩ := fun j => by unfold Addr.add; split <;> simp_all
  have at_ : ∀ j, j < 5 → ∀ u, t.cells[j]? = some u → wr.cell? ⟨g, i * 5 + j, none⟩ = some u := fun j hj u hu => by
    have := hc (5 * i + j) u (by rw [flat_at l i t ht j hj]; exact hu)
    rw [add] at this
    rwa [Nat.mul_comm] at this
  exact ⟨at_ 0 (by decide) _ rfl, at_ 1 (by decide) _ rfl, at_ 2 (by decide) _ rfl, at_ 3 (by decide) _ rfl, at_ 4 (by decide) _ rfl⟩
theorem Lie.keep {w w' : World} {g : Nat} {l : List Tok} (h : Lie w g l) (hb : Below w.heap.size w w') : Lie w' g l := by
  intro i t ht
  obtain ⟨h0, h1, h2, h3, h4⟩ := h i t ht
  have hlt : g < w.heap.size := World.block_lt_of_cell? _ _ h0
  have hk : ∀ j, w'.cell? ⟨g, j, none⟩ = w.cell? ⟨g, j, none⟩ := fun j => World.cell?_of_block (hb.block g hlt)
  exact ⟨(hk _).trans h0, (hk _).trans h1, (hk _).trans h2, (hk _).trans h3, (hk _).trans h4⟩
structure Tabs (w : World) (b0 o0 c0 b1 o1 c1 : Nat) : Prop where
  pow : Lib.TabIs Tryd.prog w "internal/strconv.uint64pow10" .u64 Lib.pow10Tab
  words : TabS w 0 wordsL b0 o0 c0
  marks : TabS w 1 marksT b1 o1 c1
theorem Tabs.keep {w w' : World} {b0 o0 c0 b1 o1 c1 : Nat} (h : Tabs w b0 o0 c0 b1 o1 c1) (hb : Below w.heap.size w w') : Tabs w' b0 o0 c0 b1 o1 c1 :=
  ⟨Lib.tabBelow_of_tabIs h.pow w' hb, h.words.keep hb, h.marks.keep hb⟩
set_option maxHeartbeats 16000000 in
set_option maxRecDepth 100000 in
theorem pieces_core (L : List (Int × Int × Int)) (M : List Pc) (hMd : M = L.map pcOf) (hL : L.length ≤ 40) (a : Option Addr) (cap : Nat) (w : World) (harg : PArg w L a) (b0 o0 c0 b1 o1 c1 : Nat) (htabs : Tabs w b0 o0 c0 b1 o1 c1) :
    Calls Tryd.prog 3 #[.slice a L.length cap] w fun e w' => e = .returned (.bool true) ∧ Below w.heap.size w w' := by
  obtain ⟨i0, hi, hz0⟩ := Option.map_eq_some_iff.1 infoTok
  obtain ⟨h1, h2, h3⟩ : i0.zero = some (.agg #[.int .i64 0, .string ⟨#[]⟩, .int .i64 0, .int .i64 0, .int .i64 0]) ∧ i0.size = 5 ∧ i0.bytes = 48 := by simpa using hz0
  have HI := Lib.hid hi; have HZ0 := Lib.hid h1; have HZ1 := Lib.hid h2; have HZ2 := Lib.hid h3
  have HMD := Lib.hid hMd
  have HARG := Lib.hid harg; have HTAB := Lib.hid htabs
  have hl40 : ¬ (40 : Int) < (L.length : Int) := by omega
  clear hi h1 h2 h3 hz0 harg htabs hMd
  go_enter Tryd.func3, Tryd.ntmps3
  go_wp2_with (fail)
  refine (head_any _).mono ?_
  rintro e w1 ⟨rfl, hb1⟩
  have HB1 := Lib.hid hb1
  clear hb1
  go_wp2_with (fail)
  have hpw : PW w.heap.size w (pcsK 1 1 (M.take 0)) (.slice (some ⟨w1.heap.size, 0, none⟩) 0 0) (w1.alloc (.cells #[] 31)) :=
    ⟨HB1.out.alloc HB1.out.size _, rfl, .inr ⟨w1.heap.size, 0, #[], rfl, HB1.out.size, alloc_at _ _ _ rfl, Nat.le_refl _, Nat.zero_le _, rfl, rfl⟩⟩
  have HPW := Lib.hid hpw
  clear hpw
  generalize (w1.alloc (.cells #[] 31)) = W1 at *
  generalize w1.heap.size = k1 at *
  go_loopw [3, 4, 21] (fun x v i wr => ∃ j : Nat, j ≤ L.length ∧ i = .int .i64 j ∧ x = .string ⟨(pcsT (M.take j)).toArray⟩ ∧ (∃ g cap, v = .slice (some ⟨g, 0, none⟩) j cap) ∧ PW w.heap.size w (pcsK 1 1 (M.take j)) v wr) (fun _ _ i _ => L.length - (intOf i).toNat)
  case atStart => exact ⟨0, Nat.zero_le _, rfl, rfl, ⟨_, _, rfl⟩, HPW.out⟩
  case round =>
    obtain ⟨j, hj, rfl, rfl, ⟨g, cap1, rfl⟩, hpw⟩ := hrel
    have HJ := Lib.hid hpw
    clear hpw HPW
    by_cases hlt : j < L.length
    · obtain ⟨⟨pk, pn, pg⟩, hp⟩ : ∃ p, L[j]? = some p := ⟨_, List.getElem?_eq_getElem hlt⟩
      have hgrow := HJ.out.below
      have hargr := HARG.out.keep hgrow
      have htabr := HTAB.out.keep hgrow
      obtain ⟨ab, ao, rfl, d0, d1, d2⟩ := hargr.at_ j pk pn pg hp
      have HTR := Lib.hid htabr
      have hltw : w.heap.size ≤ wr.heap.size := hgrow.size
      clear hgrow hargr htabr
      go_upto_region 10 with (fail)
      have hb6 : (wr.alloc (.cells #[.int .i64 pk, .int .i64 pn, .int .i64 pg] 26)).heap[wr.heap.size]? = some (.cells #[.int .i64 pk, .int .i64 pn, .int .i64 pg] 26 (0, 0)) := alloc_at _ _ _ rfl
      have hw2 : Below wr.heap.size wr (wr.alloc (.cells #[.int .i64 pk, .int .i64 pn, .int .i64 pg] 26)) := (Below.refl _ _).alloc (Nat.le_refl _) _
      have hz2 : (wr.alloc (.cells #[.int .i64 pk, .int .i64 pn, .int .i64 pg] 26)).heap.size = wr.heap.size + 1 := by simp
      obtain ⟨e0, e1, e2⟩ : (wr.alloc (.cells #[.int .i64 pk, .int .i64 pn, .int .i64 pg] 26)).cell? ⟨wr.heap.size, 0, none⟩ = some (.int .i64 pk) ∧ (wr.alloc (.cells #[.int .i64 pk, .int .i64 pn, .int .i64 pg] 26)).cell? ⟨wr.heap.size, 1, none⟩ = some (.int .i64 pn) ∧ (wr.alloc (.cells #[.int .i64 pk, .int .i64 pn, .int .i64 pg] 26)).cell? ⟨wr.heap.size, 2, none⟩ = some (.int .i64 pg) := ⟨cell_ok hb6 0, cell_ok hb6 1, cell_ok hb6 2⟩
      generalize (wr.alloc (.cells #[.int .i64 pk, .int .i64 pn, .int .i64 pg] 26)) = W2 at *
      obtain ⟨q6, hq6⟩ : ∃ q, q = wr.heap.size := ⟨_, rfl⟩
      rw [← hq6] at hb6 hz2 e0 e1 e2 ⊢
      have HQ6 := Lib.hid hq6; have HB6 := Lib.hid hb6; have HW2 := Lib.hid hw2
      clear hq6 hb6 hw2 d0 d1 d2
      go_upto_region 13 with (fail)
      rw [and65535]
      have hn65 := nOf_lt pn
      have hm : (W2.alloc (.cells #[.int .i64 0, .string ⟨#[]⟩, .int .i64 0, .int .i64 0, .int .i64 0] 31)).heap[W2.heap.size]? = some (.cells #[.int .i64 0, .string ⟨#[]⟩, .int .i64 0, .int .i64 0, .int .i64 0] 31 (0, 0)) := alloc_at _ _ _ rfl
      rw [hz2] at hm
      have hw3 : Below wr.heap.size wr (W2.alloc (.cells #[.int .i64 0, .string ⟨#[]⟩, .int .i64 0, .int .i64 0, .int .i64 0] 31)) := HW2.out.alloc (by have := HQ6.out; omega) _
      have hb6 : (W2.alloc (.cells #[.int .i64 0, .string ⟨#[]⟩, .int .i64 0, .int .i64 0, .int .i64 0] 31)).heap[q6]? = some (.cells #[.int .i64 pk, .int .i64 pn, .int .i64 pg] 26 (0, 0)) := (Below.heap_alloc _ _ _ (by omega)).trans HB6.out
      have hz3 : (W2.alloc (.cells #[.int .i64 0, .string ⟨#[]⟩, .int .i64 0, .int .i64 0, .int .i64 0] 31)).heap.size = q6 + 1 + 1 := by simp [hz2]
      clear e0 e1 e2 HB6 HW2 hz2
      generalize (W2.alloc (.cells #[.int .i64 0, .string ⟨#[]⟩, .int .i64 0, .int .i64 0, .int .i64 0] 31)) = W3 at *
      obtain ⟨e0, e1, e2⟩ : W3.cell? ⟨q6, 0, none⟩ = some (.int .i64 pk) ∧ W3.cell? ⟨q6, 1, none⟩ = some (.int .i64 pn) ∧ W3.cell? ⟨q6, 2, none⟩ = some (.int .i64 pg) := ⟨cell_ok hb6 0, cell_ok hb6 1, cell_ok hb6 2⟩
      have HB6 := Lib.hid hb6; have HW3 := Lib.hid hw3; have HM := Lib.hid hm
      clear hb6 hw3 hm

      go_upto_block 2 with (fail)
      rw [and3]
      have hk4 := kOf_lt pk
      have hxl := pcTxt_len (kOf pk) (nOf pn) hn65
      go_cut [8] from 31 to 63 (fun s8 wx => s8 = .string ⟨(pcTxt (kOf pk) (nOf pn)).toArray⟩ ∧ Below wr.heap.size wr wx ∧ wx.heap[q6]? = some (.cells #[.int .i64 pk, .int .i64 pn, .int .i64 pg] 26 (0, 0)) ∧ wx.heap[q6 + 1]? = some (.cells #[.int .i64 ((kOf pk : Int) + 1), .string ⟨#[]⟩, .int .i64 (if kOf pk = 1 then (nOf pn : Int) else 0), .int .i64 0, .int .i64 0] 31 (0, 0)))
      case first =>
        have h4 : kOf pk = 0 ∨ kOf pk = 1 ∨ kOf pk = 2 ∨ kOf pk = 3 := by omega
        have hd20 : (⟨(Lib.decDigits (nOf pn)).toArray⟩ : ByteArray).size ≤ 20 := by rw [size_list, Lib.decDigits_length]; exact Lib.nDigits_le20 _ (by omega)
        have HT3 := Lib.hid (HTR.out.keep (HW3.out))
        rcases h4 with h4 | h4 | h4 | h4
        · rw [h4]
          have HX := Lib.hid (show (⟨#[120]⟩ : ByteArray) ++ ⟨(Lib.decDigits (nOf pn)).toArray⟩ ++ ⟨#[95, 89]⟩ = ⟨(pcTxt 0 (nOf pn)).toArray⟩ by
            rw [show (⟨#[120]⟩ : ByteArray) = ⟨[(120 : UInt8)].toArray⟩ from rfl, show (⟨#[95, 89]⟩ : ByteArray) = ⟨[(95 : UInt8), 89].toArray⟩ from rfl, cat_lists, cat_lists]; rfl)
          have HIT := Lib.hid (fun w h => itoa_any (nOf pn) hn65 w h)
          generalize (⟨(Lib.decDigits (nOf pn)).toArray⟩ : ByteArray) = D at HX HIT hd20
          go_upto_region 18 with (refine (HIT.out _ HT3.out.pow).mono ?_; rintro e w4 ⟨rfl, hb4⟩)
          have hm4 := (hb4.block (q6 + 1) (by omega)).trans HM.out
          have h64 := (hb4.block q6 (by omega)).trans HB6.out
          have hw4 := HW3.out.trans (hb4.mono (by have := HQ6.out; omega))
          obtain ⟨⟨m0, m1, m2, m3, m4⟩, hf, hlt9⟩ := five hm4
          have f0 := hf 0
          have HM4 := Lib.hid hm4; have H64 := Lib.hid h64; have HW4 := Lib.hid hw4
          clear hb4 hm4 h64 hw4 e0 e1 e2
          go_wp2_with (fail)
          go_meet
          case rel =>
            rw [h4]
            refine ⟨by rw [HX.out], below_put HW4.out (by have := HQ6.out; omega) _ _, (Below.heap_setCell _ _ _ _ (by show q6 ≠ q6 + 1; omega)).trans H64.out, ?_⟩
            rw [set_block _ _ _ _ _ _ HM4.out]; rfl
        · rw [h4]
          have HX := Lib.hid (show (⟨(Lib.decDigits (nOf pn)).toArray⟩ : ByteArray) = ⟨(pcTxt 1 (nOf pn)).toArray⟩ from rfl)
          have HIT := Lib.hid (fun w h => itoa_any (nOf pn) hn65 w h)
          generalize (⟨(Lib.decDigits (nOf pn)).toArray⟩ : ByteArray) = D at HX HIT hd20
          go_upto_region 21 with (refine (HIT.out _ HT3.out.pow).mono ?_; rintro e w4 ⟨rfl, hb4⟩)
          have hm4 := (hb4.block (q6 + 1) (by omega)).trans HM.out
          have h64 := (hb4.block q6 (by omega)).trans HB6.out
          have hw4 := HW3.out.trans (hb4.mono (by have := HQ6.out; omega))
          obtain ⟨⟨m0, m1, m2, m3, m4⟩, hf, hlt9⟩ := five hm4
          have f0 := hf 0; have f2 := hf 2
          have HM4 := Lib.hid hm4; have H64 := Lib.hid h64; have HW4 := Lib.hid hw4
          clear hb4 hm4 h64 hw4 e0 e1 e2
          go_wp2_with (fail)
          go_meet
          case rel =>
            rw [h4]
            refine ⟨by rw [HX.out], below_put (below_put HW4.out (by have := HQ6.out; omega) _ _) (by have := HQ6.out; omega) _ _, ((Below.heap_setCell _ _ _ _ (by show q6 ≠ q6 + 1; omega)).trans (Below.heap_setCell _ _ _ _ (by show q6 ≠ q6 + 1; omega))).trans H64.out, ?_⟩
            rw [set_block _ _ _ _ _ _ (set_block _ _ _ _ _ _ HM4.out)]; rfl
        · rw [h4]
          go_upto_region 24 with (fail)
          have hjl : nOf pn % 11 < 11 := Nat.mod_lt _ (by decide)
          have tw : W3.cell? ⟨0, 0, none⟩ = some (.slice (some ⟨b0, o0, none⟩) 11 c0) := HT3.out.words.var
          have tc : W3.cell? ⟨b0, o0 + nOf pn % 11, none⟩ = some (.string ⟨(pcTxt 2 (nOf pn)).toArray⟩) := HT3.out.words.cells (nOf pn % 11) (wordsL.getD (nOf pn % 11) []) (by rw [List.getD_eq_getElem?_getD, List.getElem?_eq_getElem (by exact hjl)]; rfl)
          have hrem : IntKind.i64.wrap ((nOf pn : Int).tmod 11) = ((nOf pn % 11 : Nat) : Int) := by
            rw [Int.tmod_eq_emod_of_nonneg (by omega), IntKind.wrap_i64]; omega
          have hrem2 : (nOf pn : Int).tmod 11 = ((nOf pn % 11 : Nat) : Int) := by
            rw [Int.tmod_eq_emod_of_nonneg (by omega)]; omega
          have hjI : ((nOf pn % 11 : Nat) : Int) < 11 := by omega
          have hj0 : (0 : Int) ≤ ((nOf pn % 11 : Nat) : Int) := by omega
          generalize nOf pn % 11 = r at *
          obtain ⟨TX, hTX⟩ : ∃ TX : ByteArray, TX = ⟨(pcTxt 2 (nOf pn)).toArray⟩ := ⟨_, rfl⟩
          rw [← hTX] at tc
          have HTX := Lib.hid hTX
          clear hTX
          refine wp_region_by (G := Unit) (by kernel_rfl) (fun _ => [.slice (some ⟨b0, o0, none⟩) 11 c0, .int .i64 (nOf pn), .slice (some ⟨b0, o0, none⟩) 11 c0, .int .i64 11, .int .i64 r, .pointer (some ⟨b0, o0 + r, none⟩), .string TX, .string TX]) (fun _ _ w' => w' = W3.drew) () (fun _ => rfl) (by kernel_rfl) ?h0 ?steps ?done
          case h0 => rfl
          case done =>
            intro _ w' hI
            subst hI
            simp only [full, Act.put, List.setIfInBounds_toArray, List.set_cons_zero, List.set_cons_succ]
            go_upto_region 25 with (fail)
            have hm4 : W3.drew.heap[q6 + 1]? = _ := HM.out
            have h64 : W3.drew.heap[q6]? = _ := HB6.out
            have hw4 : Below wr.heap.size wr W3.drew := ⟨HW3.out.os, HW3.out.tape, HW3.out.output, HW3.out.size, HW3.out.block⟩
            obtain ⟨⟨m0, m1, m2, m3, m4⟩, hf, hlt9⟩ := five hm4
            have f0 := hf 0
            have HM4 := Lib.hid hm4; have H64 := Lib.hid h64; have HW4 := Lib.hid hw4
            clear hm4 h64 hw4 e0 e1 e2 tw tc hrem hrem2 hjI hj0
            generalize W3.drew = W5 at *
            go_wp2_with (fail)
            go_meet
            case rel =>
              rw [h4]
              refine ⟨by rw [HTX.out], below_put HW4.out (by have := HQ6.out; omega) _ _, (Below.heap_setCell _ _ _ _ (by show q6 ≠ q6 + 1; omega)).trans H64.out, ?_⟩
              rw [set_block _ _ _ _ _ _ HM4.out]; rfl
          case steps =>
            refine Steps.cons (k' := 1) ?s0 rfl (Steps.cons (k' := 2) ?s1 rfl (Steps.cons (k' := 3) ?s2 rfl (Steps.cons (k' := 4) ?s3 rfl (Steps.cons (k' := 5) ?s4 rfl (Steps.cons (k' := 6) ?s5 rfl (Steps.cons (k' := 7) ?s6 rfl (Steps.cons (k' := 8) ?s7 rfl (Steps.nil))))))))
            case s0 =>
              intro L' g' w' hL' hd hcl hI K hK
              subst hI
              simp only [full, Act.put, List.setIfInBounds_toArray, List.set_cons_zero, List.set_cons_succ] at hK ⊢
              have HK := Lib.hid hK
              clear hL' hd hcl hK
              go_simp
              exact HK.out _ _ () rfl (fun _ _ => by first | rfl | trivial) rfl
            case s1 =>
              intro L' g' w' hL' hd hcl hI K hK
              subst hI
              simp only [full, Act.put, List.setIfInBounds_toArray, List.set_cons_zero, List.set_cons_succ] at hK ⊢
              have HK := Lib.hid hK
              clear hL' hd hcl hK
              go_simp
              exact HK.out _ _ () rfl (fun _ _ => by first | rfl | trivial) rfl
            case s2 =>
              intro L' g' w' hL' hd hcl hI K hK
              subst hI
              simp only [full, Act.put, List.setIfInBounds_toArray, List.set_cons_zero, List.set_cons_succ] at hK ⊢
              have HK := Lib.hid hK
              clear hL' hd hcl hK
              go_simp
              exact HK.out _ _ () rfl (fun _ _ => by first | rfl | trivial) rfl
            case s3 =>
              intro L' g' w' hL' hd hcl hI K hK
              subst hI
              simp only [full, Act.put, List.setIfInBounds_toArray, List.set_cons_zero, List.set_cons_succ] at hK ⊢
              have HK := Lib.hid hK
              clear hL' hd hcl hK
              go_simp
              exact HK.out _ _ () rfl (fun _ _ => by first | rfl | trivial) rfl
            case s4 =>
              intro L' g' w' hL' hd hcl hI K hK
              subst hI
              simp only [full, Act.put, List.setIfInBounds_toArray, List.set_cons_zero, List.set_cons_succ] at hK ⊢
              have HK := Lib.hid hK
              clear hL' hd hcl hK
              go_simp
              exact HK.out _ _ () rfl (fun _ _ => by first | rfl | trivial) rfl
            case s5 =>
              intro L' g' w' hL' hd hcl hI K hK
              subst hI
              simp only [full, Act.put, List.setIfInBounds_toArray, List.set_cons_zero, List.set_cons_succ] at hK ⊢
              have HK := Lib.hid hK
              clear hL' hd hcl hK
              go_simp
              exact HK.out _ _ () rfl (fun _ _ => by first | rfl | trivial) rfl
            case s6 =>
              intro L' g' w' hL' hd hcl hI K hK
              subst hI
              simp only [full, Act.put, List.setIfInBounds_toArray, List.set_cons_zero, List.set_cons_succ] at hK ⊢
              have HK := Lib.hid hK
              clear hL' hd hcl hK
              go_simp
              exact HK.out _ _ () rfl (fun _ _ => by first | rfl | trivial) rfl
            case s7 =>
              intro L' g' w' hL' hd hcl hI K hK
              subst hI
              simp only [full, Act.put, List.setIfInBounds_toArray, List.set_cons_zero, List.set_cons_succ] at hK ⊢
              have HK := Lib.hid hK
              clear hL' hd hcl hK
              go_simp
              exact HK.out _ _ () rfl (fun _ _ => by first | rfl | trivial) rfl
        · rw [h4]
          go_upto_region 14 with (fail)
          have hjl : nOf pn % 28 < 28 := Nat.mod_lt _ (by decide)
          have tw : W3.cell? ⟨1, 0, none⟩ = some (.slice (some ⟨b1, o1, none⟩) 28 c1) := HT3.out.marks.var
          have tc : W3.cell? ⟨b1, o1 + nOf pn % 28, none⟩ = some (.string ⟨(pcTxt 3 (nOf pn)).toArray⟩) := HT3.out.marks.cells (nOf pn % 28) (marksT.getD (nOf pn % 28) []) (by rw [List.getD_eq_getElem?_getD, List.getElem?_eq_getElem (by exact hjl)]; rfl)
          have hrem : IntKind.i64.wrap ((nOf pn : Int).tmod 28) = ((nOf pn % 28 : Nat) : Int) := by
            rw [Int.tmod_eq_emod_of_nonneg (by omega), IntKind.wrap_i64]; omega
          have hrem2 : (nOf pn : Int).tmod 28 = ((nOf pn % 28 : Nat) : Int) := by
            rw [Int.tmod_eq_emod_of_nonneg (by omega)]; omega
          have hjI : ((nOf pn % 28 : Nat) : Int) < 28 := by omega
          have hj0 : (0 : Int) ≤ ((nOf pn % 28 : Nat) : Int) := by omega
          generalize nOf pn % 28 = r at *
          obtain ⟨TX, hTX⟩ : ∃ TX : ByteArray, TX = ⟨(pcTxt 3 (nOf pn)).toArray⟩ := ⟨_, rfl⟩
          rw [← hTX] at tc
          have HTX := Lib.hid hTX
          clear hTX
          refine wp_region_by (G := Unit) (by kernel_rfl) (fun _ => [.slice (some ⟨b1, o1, none⟩) 28 c1, .int .i64 (nOf pn), .slice (some ⟨b1, o1, none⟩) 28 c1, .int .i64 28, .int .i64 r, .pointer (some ⟨b1, o1 + r, none⟩), .string TX, .string TX]) (fun _ _ w' => w' = W3.drew) () (fun _ => rfl) (by kernel_rfl) ?h0 ?steps ?done
          case h0 => rfl
          case done =>
            intro _ w' hI
            subst hI
            simp only [full, Act.put, List.setIfInBounds_toArray, List.set_cons_zero, List.set_cons_succ]
            go_upto_region 15 with (fail)
            have hm4 : W3.drew.heap[q6 + 1]? = _ := HM.out
            have h64 : W3.drew.heap[q6]? = _ := HB6.out
            have hw4 : Below wr.heap.size wr W3.drew := ⟨HW3.out.os, HW3.out.tape, HW3.out.output, HW3.out.size, HW3.out.block⟩
            obtain ⟨⟨m0, m1, m2, m3, m4⟩, hf, hlt9⟩ := five hm4
            have f0 := hf 0
            have HM4 := Lib.hid hm4; have H64 := Lib.hid h64; have HW4 := Lib.hid hw4
            clear hm4 h64 hw4 e0 e1 e2 tw tc hrem hrem2 hjI hj0
            generalize W3.drew = W5 at *
            go_wp2_with (fail)
            go_meet
            case rel =>
              rw [h4]
              refine ⟨by rw [HTX.out], below_put HW4.out (by have := HQ6.out; omega) _ _, (Below.heap_setCell _ _ _ _ (by show q6 ≠ q6 + 1; omega)).trans H64.out, ?_⟩
              rw [set_block _ _ _ _ _ _ HM4.out]; rfl
          case steps =>
            refine Steps.cons (k' := 1) ?s0 rfl (Steps.cons (k' := 2) ?s1 rfl (Steps.cons (k' := 3) ?s2 rfl (Steps.cons (k' := 4) ?s3 rfl (Steps.cons (k' := 5) ?s4 rfl (Steps.cons (k' := 6) ?s5 rfl (Steps.cons (k' := 7) ?s6 rfl (Steps.cons (k' := 8) ?s7 rfl (Steps.nil))))))))
            case s0 =>
              intro L' g' w' hL' hd hcl hI K hK
              subst hI
              simp only [full, Act.put, List.setIfInBounds_toArray, List.set_cons_zero, List.set_cons_succ] at hK ⊢
              have HK := Lib.hid hK
              clear hL' hd hcl hK
              go_simp
              exact HK.out _ _ () rfl (fun _ _ => by first | rfl | trivial) rfl
            case s1 =>
              intro L' g' w' hL' hd hcl hI K hK
              subst hI
              simp only [full, Act.put, List.setIfInBounds_toArray, List.set_cons_zero, List.set_cons_succ] at hK ⊢
              have HK := Lib.hid hK
              clear hL' hd hcl hK
              go_simp
              exact HK.out _ _ () rfl (fun _ _ => by first | rfl | trivial) rfl
            case s2 =>
              intro L' g' w' hL' hd hcl hI K hK
              subst hI
              simp only [full, Act.put, List.setIfInBounds_toArray, List.set_cons_zero, List.set_cons_succ] at hK ⊢
              have HK := Lib.hid hK
              clear hL' hd hcl hK
              go_simp
              exact HK.out _ _ () rfl (fun _ _ => by first | rfl | trivial) rfl
            case s3 =>
              intro L' g' w' hL' hd hcl hI K hK
              subst hI
              simp only [full, Act.put, List.setIfInBounds_toArray, List.set_cons_zero, List.set_cons_succ] at hK ⊢
              have HK := Lib.hid hK
              clear hL' hd hcl hK
              go_simp
              exact HK.out _ _ () rfl (fun _ _ => by first | rfl | trivial) rfl
            case s4 =>
              intro L' g' w' hL' hd hcl hI K hK
              subst hI
              simp only [full, Act.put, List.setIfInBounds_toArray, List.set_cons_zero, List.set_cons_succ] at hK ⊢
              have HK := Lib.hid hK
              clear hL' hd hcl hK
              go_simp
              exact HK.out _ _ () rfl (fun _ _ => by first | rfl | trivial) rfl
            case s5 =>
              intro L' g' w' hL' hd hcl hI K hK
              subst hI
              simp only [full, Act.put, List.setIfInBounds_toArray, List.set_cons_zero, List.set_cons_succ] at hK ⊢
              have HK := Lib.hid hK
              clear hL' hd hcl hK
              go_simp
              exact HK.out _ _ () rfl (fun _ _ => by first | rfl | trivial) rfl
            case s6 =>
              intro L' g' w' hL' hd hcl hI K hK
              subst hI
              simp only [full, Act.put, List.setIfInBounds_toArray, List.set_cons_zero, List.set_cons_succ] at hK ⊢
              have HK := Lib.hid hK
              clear hL' hd hcl hK
              go_simp
              exact HK.out _ _ () rfl (fun _ _ => by first | rfl | trivial) rfl
            case s7 =>
              intro L' g' w' hL' hd hcl hI K hK
              subst hI
              simp only [full, Act.put, List.setIfInBounds_toArray, List.set_cons_zero, List.set_cons_succ] at hK ⊢
              have HK := Lib.hid hK
              clear hL' hd hcl hK
              go_simp
              exact HK.out _ _ () rfl (fun _ _ => by first | rfl | trivial) rfl
      case rest =>
      generalize wc = W6 at *
      obtain ⟨rfl, hw6, h66, hm6⟩ := hcut
      obtain ⟨e0, e1, e2⟩ : W6.cell? ⟨q6, 0, none⟩ = some (.int .i64 pk) ∧ W6.cell? ⟨q6, 1, none⟩ = some (.int .i64 pn) ∧ W6.cell? ⟨q6, 2, none⟩ = some (.int .i64 pg) := ⟨cell_ok h66 0, cell_ok h66 1, cell_ok h66 2⟩
      have HW6 := Lib.hid hw6; have HM6 := Lib.hid hm6
      have hlt9 := lt_heap hm6
      have hg5 := gOf_lt pg
      have hr5 := rem5 pg
      have hga := gapcell W6 (gOf pg) hg5
      have hlt6 := lt_heap h66
      have e2' := (World.cell?_of_block (a := ⟨q6, 2, none⟩) (Below.heap_alloc W6 (.cells #[.string ⟨#[32]⟩, .string ⟨#[10]⟩, .string ⟨#[9, 32, 13, 10]⟩, .string ⟨#[32, 47, 47, 32, 110, 111, 32, 116, 111, 107, 101, 110, 32, 38, 38, 32, 53, 10]⟩, .string ⟨#[10, 47, 47, 10]⟩] 9) q6 hlt6)).trans e2
      have hgl := gap_len (gOf pg)
      rw [← size_list] at hgl hxl
      have hsl : (⟨(pcsT (M.take j)).toArray⟩ : ByteArray).size ≤ 2000 := by
        rw [size_list, HMD.out, ← List.map_take]
        have := pcsT_len (L.take j)
        rw [List.length_take] at this
        omega
      have HX1 := Lib.hid (cat_lists (pcsT (M.take j)) (gapsT.getD (gOf pg) []))
      have hsz1 : (⟨(pcsT (M.take j) ++ gapsT.getD (gOf pg) []).toArray⟩ : ByteArray).size ≤ 2020 := by
        rw [size_list, List.length_append]; rw [size_list] at hsl hgl; omega
      have HX2 := Lib.hid (cat_lists (pcsT (M.take j) ++ gapsT.getD (gOf pg) []) (pcTxt (kOf pk) (nOf pn)))
      clear hw6 hm6 h66 HTR HB6 HW3 HM
      obtain ⟨X, hX⟩ : ∃ X : ByteArray, X = ⟨(pcsT (M.take j)).toArray⟩ := ⟨_, rfl⟩
      obtain ⟨GP, hGP⟩ : ∃ X : ByteArray, X = ⟨(gapsT.getD (gOf pg) []).toArray⟩ := ⟨_, rfl⟩
      obtain ⟨TX, hTX⟩ : ∃ X : ByteArray, X = ⟨(pcTxt (kOf pk) (nOf pn)).toArray⟩ := ⟨_, rfl⟩
      obtain ⟨X1, hX1⟩ : ∃ X : ByteArray, X = ⟨(pcsT (M.take j) ++ gapsT.getD (gOf pg) []).toArray⟩ := ⟨_, rfl⟩
      rw [← hX] at HX1 hsl ⊢
      rw [← hGP] at HX1 hga hgl
      rw [← hTX] at HX2 hxl ⊢
      rw [← hX1] at HX1 HX2 hsz1
      have HTX := Lib.hid hTX; have HXD1 := Lib.hid hX1
      clear hX hGP hTX hX1
      generalize hG : gOf pg = G at *
      have HGD := Lib.hid hG
      clear hG
      go_upto_region 27 with (fail)
      have hm7 := (Below.heap_alloc W6 (.cells #[.string ⟨#[32]⟩, .string ⟨#[10]⟩, .string ⟨#[9, 32, 13, 10]⟩, .string ⟨#[32, 47, 47, 32, 110, 111, 32, 116, 111, 107, 101, 110, 32, 38, 38, 32, 53, 10]⟩, .string ⟨#[10, 47, 47, 10]⟩] 9) (q6 + 1) hlt9).trans HM6.out
      have hw7 := HW6.out.alloc (by have := HW6.out.size; omega) (.cells #[.string ⟨#[32]⟩, .string ⟨#[10]⟩, .string ⟨#[9, 32, 13, 10]⟩, .string ⟨#[32, 47, 47, 32, 110, 111, 32, 116, 111, 107, 101, 110, 32, 38, 38, 32, 53, 10]⟩, .string ⟨#[10, 47, 47, 10]⟩] 9)
      clear hga e2' e0 e1 e2 HM6 HW6 hlt9 hlt6 hr5
      rw [HX1.out]
      generalize (W6.alloc (.cells #[.string ⟨#[32]⟩, .string ⟨#[10]⟩, .string ⟨#[9, 32, 13, 10]⟩, .string ⟨#[32, 47, 47, 32, 110, 111, 32, 116, 111, 107, 101, 110, 32, 38, 38, 32, 53, 10]⟩, .string ⟨#[10, 47, 47, 10]⟩] 9)) = W7 at *
      have hgen : W6.heap.size = W6.heap.size := rfl
      generalize W6.heap.size = q10 at *
      obtain ⟨⟨m0, m1, m2, m3, m4⟩, hf, hlt9⟩ := five hm7
      have f1 := hf 1
      have HM7 := Lib.hid hm7; have HW7 := Lib.hid hw7
      clear hm7 hw7 hf hgen
      go_upto_region 28 with (fail)
      have hm8 : (W7.setCell ⟨q6 + 1, 1, none⟩ (.string TX)).heap[q6 + 1]? = some (.cells #[.int .i64 ((kOf pk : Int) + 1), .string TX, .int .i64 (if kOf pk = 1 then (nOf pn : Int) else 0), .int .i64 0, .int .i64 0] 31 (0, 0)) := by rw [set_block _ _ _ _ _ _ HM7.out]; rfl
      have hw8 := below_put (j := 1) (v := .string TX) HW7.out (show wr.heap.size ≤ q6 + 1 by have := HQ6.out; omega)
      clear m0 m1 m2 m3 m4 f1 HM7 HW7 hlt9
      generalize (W7.setCell ⟨q6 + 1, 1, none⟩ (.string TX)) = W8 at *
      have HM8 := Lib.hid hm8; have HW8 := Lib.hid hw8
      have hlt8 := lt_heap hm8
      clear hm8 hw8
      obtain ⟨pl, pc, hpos⟩ : ∃ pl pc, posFrom 1 1 (pcsT (M.take j) ++ gapsT.getD G []) = (pl, pc) := ⟨_, _, rfl⟩
      have HPL : Hid (∀ w, Calls Tryd.prog 7 #[.string X1, .int .i64 X1.size] w fun e w' => e = .returned (.agg #[.int .i64 pl, .int .i64 pc]) ∧ Below w.heap.size w w') := Lib.hid (fun w => by
        refine (place_any X1 X1.size (Nat.le_refl _) (by omega) w).mono ?_
        rintro e w' ⟨rfl, hb⟩
        refine ⟨?_, hb⟩
        have : X1.data.toList.take X1.size = pcsT (M.take j) ++ gapsT.getD G [] := by
          rw [HXD1.out, list_of, size_list, List.take_length]
        rw [this, hpos])
      have HPOS := Lib.hid hpos
      clear hpos
      go_upto_region 29 with (go_at_call 7; refine (HPL.out _).mono ?_; rintro e w9 ⟨rfl, hb9⟩; have hm9 := (hb9.block (q6 + 1) hlt8).trans HM8.out; obtain ⟨⟨n0, n1, n2, n3, n4⟩, hf9, hlt9⟩ := five hm9; have f3 := hf9 3; have f4 := hf9 4; have HM9 := Lib.hid hm9; have HW9 := Lib.hid (HW8.out.trans (hb9.mono HW8.out.size)); clear hm9 hb9 hf9)
      have hm10 : ((w9.setCell ⟨q6 + 1, 3, none⟩ (.int .i64 pl)).setCell ⟨q6 + 1, 4, none⟩ (.int .i64 pc)).heap[q6 + 1]? = some (.cells #[.int .i64 ((kOf pk : Int) + 1), .string TX, .int .i64 (if kOf pk = 1 then (nOf pn : Int) else 0), .int .i64 pl, .int .i64 pc] 31 (0, 0)) := by rw [set_block _ _ _ _ _ _ (set_block _ _ _ _ _ _ HM9.out)]; rfl
      have hw10 := below_put (j := 4) (v := .int .i64 pc) (below_put (j := 3) (v := .int .i64 pl) HW9.out (show wr.heap.size ≤ q6 + 1 by have := HQ6.out; omega)) (show wr.heap.size ≤ q6 + 1 by have := HQ6.out; omega)
      clear n0 n1 n2 n3 n4 f3 f4 HM9 HW9 hlt9 HM8 HW8 hlt8
      generalize ((w9.setCell ⟨q6 + 1, 3, none⟩ (.int .i64 pl)).setCell ⟨q6 + 1, 4, none⟩ (.int .i64 pc)) = W10 at *
      have HW10 := Lib.hid hw10
      obtain ⟨⟨n0, n1, n2, n3, n4⟩, _, hlt10⟩ := five hm10
      have HM10 := Lib.hid hm10
      clear hw10 hm10 w9
      go_upto_region 30 with (fail)
      rw [HX2.out]
      have HJ10 := Lib.hid (HJ.out.keep hltw HW10.out)
      clear HW10 HJ
      have hsz10 : w.heap.size ≤ W10.heap.size := HJ10.out.below.size
      have hkl : (pcsK 1 1 (M.take j)).length = j := by
        rw [pcsK_len, List.length_take, HMD.out, List.length_map]; omega
      have HKL := Lib.hid hkl
      clear hkl
      generalize hKD : (kOf pk : Int) + 1 = KD at *
      generalize hNM : (if kOf pk = 1 then (nOf pn : Int) else 0) = NM at *
      have HKD := Lib.hid hKD; have HNM := Lib.hid hNM
      clear hKD hNM
      go_wp2_with (at_builtin; refine wpList_append_lies _ rfl _ _ 24 rfl w.heap.size 31 i0 (.agg #[.int .i64 0, .string ⟨#[]⟩, .int .i64 0, .int .i64 0, .int .i64 0]) 5 48 Tryd.underlying24 HI.out HZ0.out HZ1.out HZ2.out rfl (by decide) _ j ((pcsK 1 1 (M.take j)).flatMap Tok.cells) rfl ?hown ⟨W10.heap.size, 0, none⟩ 1 1 [.int .i64 KD, .string TX, .int .i64 NM, .int .i64 pl, .int .i64 pc] rfl rfl ?hnews (tok_one _ _ _ _ _) (by decide) ?h63 ?hby ?hba (W10.heap.size + 1) ?hH ?_)
      case hown => exact (HJ10.out.keep hsz10 ((Below.refl _ _).alloc (Nat.le_refl _) _)).own' HKL.out
      all_goals try (case hnews => exact World.news_of_block (cs := #[.int .i64 KD, .string TX, .int .i64 NM, .int .i64 pl, .int .i64 pc]) (alloc_at _ _ _ rfl))
      case h63 => unfold maxLen; omega
      case hby => omega
      case hba => first | omega | (simp; omega)
      all_goals try (case hH => simp)
      intro b2 cap2 w4 hown4 hgr4 hat4 hlt4
      have hnx : M.take (j + 1) = M.take j ++ [pcOf (pk, pn, pg)] := take_next M j _ (by rw [HMD.out, List.getElem?_map, hp]; rfl)
      have hgap : (pcOf (pk, pn, pg)).gap = gapsT.getD G [] := by show gapsT.getD (gOf pg) [] = _; rw [HGD.out]
      have htok : (⟨(pcOf (pk, pn, pg)).kind, (pcOf (pk, pn, pg)).txt, (pcOf (pk, pn, pg)).num, (posFrom 1 1 (pcsT (M.take j) ++ (pcOf (pk, pn, pg)).gap)).1, (posFrom 1 1 (pcsT (M.take j) ++ (pcOf (pk, pn, pg)).gap)).2⟩ : Tok) = ⟨KD, pcTxt (kOf pk) (nOf pn), NM, pl, pc⟩ := by
        rw [hgap, HPOS.out, ← HKD.out, ← HNM.out]; rfl
      have hpw4 : PW w.heap.size w (pcsK 1 1 (M.take (j + 1))) (.slice (some ⟨b2, 0, none⟩) (j + 1) cap2) w4 := by
        rw [hnx, pcsK_snoc, htok]
        refine (HJ10.out.keep hsz10 ((Below.refl _ _).alloc (Nat.le_refl _) _)).app (by simp; omega) HKL.out _ ?_ hgr4
        rw [HTX.out] at hown4
        exact hown4
      have HJ4 := Lib.hid hpw4
      have HTT := Lib.hid (show (⟨(pcsT (M.take j) ++ gapsT.getD G [] ++ pcTxt (kOf pk) (nOf pn)).toArray⟩ : ByteArray) = ⟨(pcsT (M.take (j + 1))).toArray⟩ by rw [hnx, pcsT_snoc, hgap]; rfl)
      clear hown4 hgr4 hat4 hpw4 htok hgap hnx HJ10 n0 n1 n2 n3 n4 hlt10
      go_wp2_with (fail)
      go_roundw
      case rel => exact ⟨j + 1, by omega, by simp, by rw [← HTT.out]; simp, ⟨_, _, rfl⟩, HJ4.out⟩
      case measure => simp [intOf]; omega
    · obtain rfl : j = L.length := by omega
      have hq0 : decide ((L.length : Int) < L.length) = false := by simp
      go_upto_region 32 with (fail)
      have hML : M.length = L.length := by rw [HMD.out, List.length_map]
      have hT : M.take L.length = M := by rw [← hML, List.take_length]
      have hjj := HJ.out
      rw [hT] at hjj ⊢
      have HJ0 := Lib.hid hjj
      have hok : ∀ p ∈ M, p.ok := by
        intro p hp
        rw [HMD.out] at hp
        obtain ⟨x, _, rfl⟩ := List.mem_map.1 hp
        exact pcOf_ok x
      have hsl : (⟨(pcsT M).toArray⟩ : ByteArray).size ≤ 2000 := by
        rw [size_list, HMD.out]
        have := pcsT_len L
        omega
      have HLX := Lib.hid (pcs_lex M hok)
      have HKL := Lib.hid (show (pcsK 1 1 M).length = L.length by rw [pcsK_len, hML])
      obtain ⟨pl, pc, hpos⟩ : ∃ pl pc, posFrom 1 1 (pcsT M) = (pl, pc) := ⟨_, _, rfl⟩
      have hlx := HLX.out
      rw [hpos] at hlx
      obtain ⟨X, hX⟩ : ∃ X : ByteArray, X = ⟨(pcsT M).toArray⟩ := ⟨_, rfl⟩
      have hXl : X.data.toList = pcsT M := by rw [hX]
      rw [← hX] at hsl ⊢
      have HPL : Hid (∀ w, Calls Tryd.prog 7 #[.string X, .int .i64 X.size] w fun e w' => e = .returned (.agg #[.int .i64 pl, .int .i64 pc]) ∧ Below w.heap.size w w') := Lib.hid (fun w => by
        refine (place_any X X.size (Nat.le_refl _) (by omega) w).mono ?_
        rintro e w' ⟨rfl, hb⟩
        refine ⟨?_, hb⟩
        have : X.data.toList.take X.size = pcsT M := by
          rw [hXl, hX, size_list, List.take_length]
        rw [this, hpos])
      have HLX2 := Lib.hid (show lexL X.data.toList = .ok (pcsK 1 1 M ++ [⟨0, [], 0, pl, pc⟩]) by rw [hXl]; exact hlx)
      clear hT hjj HJ hok HLX hpos hlx hX hXl hML
      have hszr : w.heap.size ≤ wr.heap.size := HJ0.out.below.size
      go_wp2_with (first | (go_at_call 7; refine (HPL.out _).mono ?_; rintro e w3 ⟨rfl, hb3⟩) | (at_builtin; refine wpList_append_lies _ rfl _ _ 24 rfl w.heap.size 31 i0 (.agg #[.int .i64 0, .string ⟨#[]⟩, .int .i64 0, .int .i64 0, .int .i64 0]) 5 48 Tryd.underlying24 HI.out HZ0.out HZ1.out HZ2.out rfl (by decide) _ L.length ((pcsK 1 1 M).flatMap Tok.cells) rfl ?hown ⟨w3.heap.size, 0, none⟩ 1 1 [.int .i64 0, .string ⟨#[]⟩, .int .i64 0, .int .i64 pl, .int .i64 pc] rfl rfl ?hnews (tok_one _ _ _ _ _) (by decide) ?h63 ?hby ?hba (w3.heap.size + 1) ?hH ?_))
      case hown => exact ((HJ0.out.keep hszr hb3).keep (Nat.le_trans hszr hb3.size) ((Below.refl _ _).alloc (Nat.le_refl _) _)).own' HKL.out
      all_goals try (case hnews => exact World.news_of_block (cs := #[.int .i64 0, .string ⟨#[]⟩, .int .i64 0, .int .i64 pl, .int .i64 pc]) (alloc_at _ _ _ rfl))
      case h63 => unfold maxLen; omega
      case hby => omega
      case hba => have := hb3.size; first | omega | (simp; omega)
      all_goals try (case hH => simp)
      intro b2 cap2 w4 hown4 hgr4 hat4 hlt4
      have HJ4 := Lib.hid (((HJ0.out.keep hszr hb3).keep (Nat.le_trans hszr hb3.size) ((Below.refl _ _).alloc (Nat.le_refl _) _)).app (by have := hb3.size; simp; omega) HKL.out ⟨0, [], 0, pl, pc⟩ hown4 hgr4)
      clear hown4 hgr4 hat4 hlt4 hb3 HJ0
      have hsz4 : w.heap.size ≤ w4.heap.size := HJ4.out.below.size
      go_upto_region 34 with (go_at_call 8; refine (all_ok X (by omega) _ HLX2.out (by simp) _).mono ?_; rintro e w5 ⟨g6, cap6, rfl, hb5, hg61, hg62, hcap6, hc6⟩)
      have hw6 : Below w5.heap.size w5 (w5.alloc (.cells #[.int .i64 0, .int .i64 0, .int .i64 0] 38)) := (Below.refl _ _).alloc (Nat.le_refl _) _
      have hbf : (w5.alloc (.cells #[.int .i64 0, .int .i64 0, .int .i64 0] 38)).heap[w5.heap.size]? = some (.cells #[.int .i64 0, .int .i64 0, .int .i64 0] 38 (0, 0)) := alloc_at _ _ _ rfl
      have hlg : Lie w5 g6 (pcsK 1 1 M ++ [⟨0, [], 0, pl, pc⟩]) := by
        intro i t ht
        have := hc6 i t ht
        rw [Nat.mul_comm 5 i] at this
        exact this
      have HLG := Lib.hid (hlg.keep hw6)
      have HLW := Lib.hid ((HJ4.out.toks.keep hb5).keep hw6)
      have HB6 := Lib.hid ((HJ4.out.below.trans (hb5.mono hsz4)).trans (hw6.mono (Nat.le_trans hsz4 hb5.size)))
      rw [HKL.out]
      have HTL := Lib.hid (show (pcsK 1 1 M ++ [(⟨0, [], 0, pl, pc⟩ : Tok)]).length = L.length + 1 by rw [List.length_append, HKL.out]; rfl)
      clear hw6 hlg hc6 hb5 hsz4 HJ4 HLX2 hg61 hg62 hcap6 HKL
      obtain ⟨⟨r0, r1, r2⟩, _⟩ : ((w5.alloc (.cells #[.int .i64 0, .int .i64 0, .int .i64 0] 38)).cell? ⟨w5.heap.size, 0, none⟩ = some (.int .i64 0) ∧ (w5.alloc (.cells #[.int .i64 0, .int .i64 0, .int .i64 0] 38)).cell? ⟨w5.heap.size, 1, none⟩ = some (.int .i64 0) ∧ (w5.alloc (.cells #[.int .i64 0, .int .i64 0, .int .i64 0] 38)).cell? ⟨w5.heap.size, 2, none⟩ = some (.int .i64 0)) ∧ True := ⟨⟨cell_ok hbf 0, cell_ok hbf 1, cell_ok hbf 2⟩, trivial⟩
      clear hbf
      generalize (w5.alloc (.cells #[.int .i64 0, .int .i64 0, .int .i64 0] 38)) = W6 at *
      generalize w5.heap.size = f5 at *
      clear w5
      generalize (pcsK 1 1 M ++ [(⟨0, [], 0, pl, pc⟩ : Tok)]) = TK at *
      go_wp2_with (fail)
      go_loopw [114] (fun i wr' => ∃ k : Nat, k ≤ L.length + 1 ∧ i = .int .i64 k ∧ Below W6.heap.size W6 wr') (fun i _ => L.length + 1 - (intOf i).toNat)
      case atStart => exact ⟨0, Nat.zero_le _, rfl, Below.refl _ _⟩
      case round =>
        obtain ⟨k, hk, rfl, hbk⟩ := hrel
        have HBK := Lib.hid hbk
        clear hbk
        by_cases hkl : k < L.length + 1
        · obtain ⟨⟨tk, tt, tn, tl, tc⟩, ht⟩ : ∃ t, TK[k]? = some t := ⟨_, List.getElem?_eq_getElem (by rw [HTL.out]; exact hkl)⟩
          obtain ⟨x0, x1, x2, x3, x4⟩ := HLG.out.keep HBK.out k _ ht
          obtain ⟨y0, y1, y2, y3, y4⟩ := HLW.out.keep HBK.out k _ ht
          dsimp only at x0 x1 x2 x3 x4 y0 y1 y2 y3 y4
          clear ht r0 r1 r2
          generalize (⟨tt.toArray⟩ : ByteArray) = TX at *
          go_upto_region 39 with (fail)
          have hki : (k : Int) < (L.length : Int) + 1 := by omega
          have hki2 : (k : Int) < ((L.length + 1 : Nat) : Int) := by omega
          have hk0 : (0 : Int) ≤ (k : Int) := by omega
          rw [show decide ((k : Int) < (L.length : Int) + 1) = true from decide_eq_true hki]
          refine wp_region_by (G := Unit) (by kernel_rfl) (fun _ => [.slice (some ⟨g6, 0, none⟩) (L.length + 1) cap6, .int .i64 k, .pointer (some ⟨g6, k * 5, none⟩), .agg #[.int .i64 tk, .string TX, .int .i64 tn, .int .i64 tl, .int .i64 tc], .slice (some ⟨b2, 0, none⟩) (L.length + 1) cap2, .int .i64 k, .pointer (some ⟨b2, k * 5, none⟩), .agg #[.int .i64 tk, .string TX, .int .i64 tn, .int .i64 tl, .int .i64 tc], .bool false]) (fun _ _ w' => w' = wr.drew) () (fun _ => rfl) (by kernel_rfl) ?h0 ?steps ?done
          case h0 => rfl
          case done =>
            intro _ w' hI
            subst hI
            simp only [full, Act.put, List.setIfInBounds_toArray, List.set_cons_zero, List.set_cons_succ]
            go_wp2_with (fail)
            go_roundw
            case rel => exact ⟨k + 1, by omega, by simp, ⟨HBK.out.os, HBK.out.tape, HBK.out.output, HBK.out.size, HBK.out.block⟩⟩
            case measure => simp [intOf]; omega
          case steps =>
            refine Steps.cons (k' := 1) ?s0 rfl (Steps.cons (k' := 2) ?s1 rfl (Steps.cons (k' := 3) ?s2 rfl (Steps.cons (k' := 4) ?s3 rfl (Steps.cons (k' := 5) ?s4 rfl (Steps.cons (k' := 6) ?s5 rfl (Steps.cons (k' := 7) ?s6 rfl (Steps.cons (k' := 8) ?s7 rfl (Steps.cons (k' := 9) ?s8 rfl (Steps.nil)))))))))
            case s0 =>
              intro L' g' w' hL' hd hcl hI K hK
              subst hI
              simp only [full, Act.put, List.setIfInBounds_toArray, List.set_cons_zero, List.set_cons_succ] at hK ⊢
              have HK := Lib.hid hK
              clear hL' hd hcl hK
              go_simp
              exact HK.out _ _ () rfl (fun _ _ => by first | rfl | trivial) rfl
            case s1 =>
              intro L' g' w' hL' hd hcl hI K hK
              subst hI
              simp only [full, Act.put, List.setIfInBounds_toArray, List.set_cons_zero, List.set_cons_succ] at hK ⊢
              have HK := Lib.hid hK
              clear hL' hd hcl hK
              go_simp
              exact HK.out _ _ () rfl (fun _ _ => by first | rfl | trivial) rfl
            case s2 =>
              intro L' g' w' hL' hd hcl hI K hK
              subst hI
              simp only [full, Act.put, List.setIfInBounds_toArray, List.set_cons_zero, List.set_cons_succ] at hK ⊢
              have HK := Lib.hid hK
              clear hL' hd hcl hK
              go_simp
              exact HK.out _ _ () rfl (fun _ _ => by first | rfl | trivial) rfl
            case s3 =>
              intro L' g' w' hL' hd hcl hI K hK
              subst hI
              simp only [full, Act.put, List.setIfInBounds_toArray, List.set_cons_zero, List.set_cons_succ] at hK ⊢
              have HK := Lib.hid hK
              clear hL' hd hcl hK
              go_simp
              exact HK.out _ _ () rfl (fun _ _ => by first | rfl | trivial) rfl
            case s4 =>
              intro L' g' w' hL' hd hcl hI K hK
              subst hI
              simp only [full, Act.put, List.setIfInBounds_toArray, List.set_cons_zero, List.set_cons_succ] at hK ⊢
              have HK := Lib.hid hK
              clear hL' hd hcl hK
              go_simp
              exact HK.out _ _ () rfl (fun _ _ => by first | rfl | trivial) rfl
            case s5 =>
              intro L' g' w' hL' hd hcl hI K hK
              subst hI
              simp only [full, Act.put, List.setIfInBounds_toArray, List.set_cons_zero, List.set_cons_succ] at hK ⊢
              have HK := Lib.hid hK
              clear hL' hd hcl hK
              go_simp
              exact HK.out _ _ () rfl (fun _ _ => by first | rfl | trivial) rfl
            case s6 =>
              intro L' g' w' hL' hd hcl hI K hK
              subst hI
              simp only [full, Act.put, List.setIfInBounds_toArray, List.set_cons_zero, List.set_cons_succ] at hK ⊢
              have HK := Lib.hid hK
              clear hL' hd hcl hK
              go_simp
              exact HK.out _ _ () rfl (fun _ _ => by first | rfl | trivial) rfl
            case s7 =>
              intro L' g' w' hL' hd hcl hI K hK
              subst hI
              simp only [full, Act.put, List.setIfInBounds_toArray, List.set_cons_zero, List.set_cons_succ] at hK ⊢
              have HK := Lib.hid hK
              clear hL' hd hcl hK
              go_simp
              exact HK.out _ _ () rfl (fun _ _ => by first | rfl | trivial) rfl
            case s8 =>
              intro L' g' w' hL' hd hcl hI K hK
              subst hI
              simp only [full, Act.put, List.setIfInBounds_toArray, List.set_cons_zero, List.set_cons_succ] at hK ⊢
              have HK := Lib.hid hK
              clear hL' hd hcl hK
              go_simp
              exact HK.out _ _ () rfl (fun _ _ => by first | rfl | trivial) rfl
        · obtain rfl : k = L.length + 1 := by omega
          have hq1 : decide (((L.length + 1 : Nat) : Int) < (L.length : Int) + 1) = false := by simp
          go_wp2_with (fail)
          go_ret
          exact ⟨rfl, HB6.out.trans (HBK.out.mono HB6.out.size)⟩
end Go.Proofs.YteapdemofkmonaaDoor
