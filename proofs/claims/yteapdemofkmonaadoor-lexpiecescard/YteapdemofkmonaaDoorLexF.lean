/-
  The contract of the lexer: its tokens, or its error, for every text of at most 65536 bytes; a longer one.
-/
import Derived.Test.YteapdemofkmonaaDoorLexE
import Derived.Outline
import Derived.Deep.RegionWith
namespace Go.Proofs.YteapdemofkmonaaDoor
open Go.ChangeShapes Go.WideShapes Go.ChangeAt Go.RowKit
set_option linter.unusedVariables false

structure Tok where
  kind : Int
  text : List UInt8
  num : Int
  line : Int
  col : Int

def Tok.cells (t : Tok) : List Value := [.int .i64 t.kind, .string ⟨t.text.toArray⟩, .int .i64 t.num, .int .i64 t.line, .int .i64 t.col]

def lineB (line : Int) (c : UInt8) : Int := if ((c.toNat : Int) == 10) then line + 1 else line
def colB (col : Int) (c : UInt8) : Int := if ((c.toNat : Int) == 10) then 1 else col + 1

/-- The text from a place on, whose next piece begins d bytes further; what was found so far. -/
def goL : List UInt8 → Nat → Int → Int → List Tok → Except (Int × Int × Int) (List Tok)
  | [], _, line, col, acc => .ok (acc ++ [⟨0, [], 0, line, col⟩])
  | c :: r, d + 1, line, col, acc => goL r d (lineB line c) (colB col c) acc
  | c :: r, 0, line, col, acc =>
    if gapL (c :: r) = 0 then
      if (tokL (c :: r)).err = 0 then
        goL r ((tokL (c :: r)).n - 1) (lineB line c) (colB col c) (acc ++ [⟨(tokL (c :: r)).kind, (c :: r).take (tokL (c :: r)).n, (tokL (c :: r)).num, line, col⟩])
      else .error ((tokL (c :: r)).err, line, col)
    else goL r (gapL (c :: r) - 1) (lineB line c) (colB col c) acc

def lexL (l : List UInt8) : Except (Int × Int × Int) (List Tok) := goL l 0 1 1 []

theorem behind_any (line col : Int) (c : Int) (h1 : 0 ≤ line) (h2 : line ≤ 1000000) (h3 : 0 ≤ col) (h4 : col ≤ 1000000) (w : World) :
    Calls Tryd.prog 13 #[.agg #[.int .i64 line, .int .i64 col], .int .u8 c] w fun e w' => e = .returned (.agg #[.int .i64 (if c == 10 then line + 1 else line), .int .i64 (if c == 10 then 1 else col + 1)]) ∧ Below w.heap.size w w' := by
  rcases Bool.eq_false_or_eq_true (c == 10) with h | h
  · rw [h]
    go_enter Tryd.func13, Tryd.ntmps13
    go_wp2
    exact bodyPost_ret (v := .agg #[.int .i64 (line + 1), .int .i64 1]) (by simp [results, Tryd.results13, go_sem]) rfl ⟨rfl, ((Below.refl _ _).alloc (Nat.le_refl _) _).alloc (by simp) _⟩
  · rw [h]
    go_enter Tryd.func13, Tryd.ntmps13
    go_wp2
    exact bodyPost_ret (v := .agg #[.int .i64 line, .int .i64 (col + 1)]) (by simp [results, Tryd.results13, go_sem]) rfl ⟨rfl, ((Below.refl _ _).alloc (Nat.le_refl _) _).alloc (by simp) _⟩
theorem behind_at (line col : Int) (c : UInt8) (h1 : 0 ≤ line) (h2 : line ≤ 1000000) (h3 : 0 ≤ col) (h4 : col ≤ 1000000) (w : World) :
    Calls Tryd.prog 13 #[.agg #[.int .i64 line, .int .i64 col], .int .u8 (c.toNat : Int)] w fun e w' => e = .returned (.agg #[.int .i64 (lineB line c), .int .i64 (colB col c)]) ∧ Below w.heap.size w w' :=
  behind_any line col _ h1 h2 h3 h4 w

/-- The place behind a byte, told of a world that lies behind another: the two cells of the place stay. -/
theorem behind_in (B : Nat) (line col : Int) (c : UInt8) (h1 : 0 ≤ line) (h2 : line ≤ 1000000) (h3 : 0 ≤ col) (h4 : col ≤ 1000000) (wr : World) (hB : B < wr.heap.size)
    (ca0 : wr.cell? ⟨B, 0, none⟩ = some (.int .i64 line)) (ca1 : wr.cell? ⟨B, 1, none⟩ = some (.int .i64 col)) (fa : ∀ j, wr.frozen? ⟨B, j, none⟩ = false) :
    ∀ W, Below wr.heap.size wr W → Calls Tryd.prog 13 #[.agg #[.int .i64 line, .int .i64 col], .int .u8 (c.toNat : Int)] W fun e w' => e = .returned (.agg #[.int .i64 (lineB line c), .int .i64 (colB col c)]) ∧ Below wr.heap.size wr w' ∧
      w'.cell? ⟨B, 0, none⟩ = some (.int .i64 line) ∧ w'.cell? ⟨B, 1, none⟩ = some (.int .i64 col) ∧ (∀ j, w'.frozen? ⟨B, j, none⟩ = false) := by
  intro W hW
  refine (behind_at line col c h1 h2 h3 h4 W).mono ?_
  rintro e w' ⟨rfl, hb⟩
  have hb' := hW.trans (hb.mono hW.size)
  exact ⟨rfl, hb', (hb'.cell hB).trans ca0, (hb'.cell hB).trans ca1, fun j => (hb'.frozen hB).trans (fa j)⟩

theorem all_long (s : ByteArray) (hs : 65536 < s.size) (hm : s.size ≤ maxLen) (w : World) :
    Calls Tryd.prog 8 #[.string s] w fun e w' => e = .returned (.tuple #[.slice none 0 0, .agg #[.int .i64 14, .int .i64 1, .int .i64 1]]) ∧ Below w.heap.size w w' := by
  unfold maxLen at hm
  go_enter Tryd.func8, Tryd.ntmps8
  go_wp2_with (fail)
  go_region
  go_wp2_with (fail)
  refine bodyPost_ret (v := .tuple #[.slice none 0 0, .agg #[.int .i64 14, .int .i64 1, .int .i64 1]]) (by simp [results, Tryd.results8, go_sem]) rfl ⟨rfl, ?_⟩
  exact (((Below.refl _ _).alloc (Nat.le_refl _) _).alloc (by simp) _).drew


theorem info34 : (Tryd.prog.info? 31).map (fun i => (i.zero, i.size, i.bytes)) = some (some (.agg #[.int .i64 0, .string ⟨#[]⟩, .int .i64 0, .int .i64 0, .int .i64 0]), 5, 48) := by kernel_rfl

/-- What lies in memory on the way. -/
structure Mem (w : World) (v : Value) (ts : List Tok) (line col : Int) (wr : World) : Prop where
  own : wr.ownsRow (w.heap.size + 2) 31 5 v ts.length (ts.flatMap Tok.cells)
  below : Below w.heap.size w wr
  size : w.heap.size + 2 ≤ wr.heap.size
  cf0 : wr.cell? ⟨w.heap.size, 0, none⟩ = some (.int .i64 0)
  cf1 : wr.cell? ⟨w.heap.size, 1, none⟩ = some (.int .i64 0)
  cf2 : wr.cell? ⟨w.heap.size, 2, none⟩ = some (.int .i64 0)
  ff : ∀ j, wr.frozen? ⟨w.heap.size, j, none⟩ = false
  ca0 : wr.cell? ⟨w.heap.size + 1, 0, none⟩ = some (.int .i64 line)
  ca1 : wr.cell? ⟨w.heap.size + 1, 1, none⟩ = some (.int .i64 col)
  fa : ∀ j, wr.frozen? ⟨w.heap.size + 1, j, none⟩ = false

theorem grown_of {wr w1 : World} (hb : Below wr.heap.size wr w1) : wr.grownBy w1 none := ⟨hb.os, hb.tape, hb.output, hb.size, fun k hk _ => hb.block k hk⟩

section
variable {w : World} {v : Value} {ts : List Tok} {line col : Int} {wr w1 : World}
theorem Mem.later (h : Mem w v ts line col wr) (hb : Below wr.heap.size wr w1) : Mem w v ts line col w1 := by
  have sz := h.size
  have hF : w.heap.size < wr.heap.size := by omega
  have hA : w.heap.size + 1 < wr.heap.size := by omega
  exact ⟨h.own.kept (grown_of hb) (by cases hv : v.ownBlock <;> simp), h.below.trans (hb.mono (by omega)), by have := hb.size; omega,
    (hb.cell hF).trans h.cf0, (hb.cell hF).trans h.cf1, (hb.cell hF).trans h.cf2, fun j => (hb.frozen hF).trans (h.ff j),
    (hb.cell hA).trans h.ca0, (hb.cell hA).trans h.ca1, fun j => (hb.frozen hA).trans (h.fa j)⟩
theorem Mem.grown (h : Mem w v ts line col wr) {v' : Value} {ts' : List Tok} {row : Option Nat} (hg : wr.grownBy w1 row) (hr : ∀ k, row = some k → w.heap.size + 2 ≤ k)
    (ho : w1.ownsRow (w.heap.size + 2) 31 5 v' ts'.length (ts'.flatMap Tok.cells)) : Mem w v' ts' line col w1 := by
  have sz := h.size
  have hb : Below (w.heap.size + 2) wr w1 := ⟨hg.os, hg.tape, hg.output, hg.size, fun k hk => hg.block k (by omega) (fun e => by have := hr k e.symm; omega)⟩
  have hF : w.heap.size < w.heap.size + 2 := by omega
  have hA : w.heap.size + 1 < w.heap.size + 2 := by omega
  exact ⟨ho, h.below.trans (hb.mono (by omega)), by have := hb.size; omega,
    (hb.cell hF).trans h.cf0, (hb.cell hF).trans h.cf1, (hb.cell hF).trans h.cf2, fun j => (hb.frozen hF).trans (h.ff j),
    (hb.cell hA).trans h.ca0, (hb.cell hA).trans h.ca1, fun j => (hb.frozen hA).trans (h.fa j)⟩
theorem Mem.put (h : Mem w v ts line col wr) (l c : Int) :
    Mem w v ts l c ((wr.setCell ⟨w.heap.size + 1, 0, none⟩ (.int .i64 l)).setCell ⟨w.heap.size + 1, 1, none⟩ (.int .i64 c)) := by
  have sz := h.size
  have hb : ∀ k, k ≠ w.heap.size + 1 → ((wr.setCell ⟨w.heap.size + 1, 0, none⟩ (.int .i64 l)).setCell ⟨w.heap.size + 1, 1, none⟩ (.int .i64 c)).heap[k]? = wr.heap[k]? := fun k hk =>
    (Below.heap_setCell _ _ _ k hk).trans (Below.heap_setCell _ _ _ k hk)
  have hg : wr.grownBy ((wr.setCell ⟨w.heap.size + 1, 0, none⟩ (.int .i64 l)).setCell ⟨w.heap.size + 1, 1, none⟩ (.int .i64 c)) (some (w.heap.size + 1)) :=
    ⟨rfl, rfl, rfl, by simp, fun k _ hk => hb k (fun e => hk (by rw [e]))⟩
  have hF : w.heap.size ≠ w.heap.size + 1 := by omega
  have one : (wr.setCell ⟨w.heap.size + 1, 0, none⟩ (.int .i64 l)).cell? ⟨w.heap.size + 1, 1, none⟩ = some (.int .i64 col) := by
    rw [World.cell?_setCell_other _ _ _ _ (by simp)]; exact h.ca1
  have two : ((wr.setCell ⟨w.heap.size + 1, 0, none⟩ (.int .i64 l)).setCell ⟨w.heap.size + 1, 1, none⟩ (.int .i64 c)).cell? ⟨w.heap.size + 1, 0, none⟩ = some (.int .i64 l) := by
    rw [World.cell?_setCell_other _ _ _ _ (by simp)]; exact World.cell?_setCell_same _ _ _ h.ca0
  refine ⟨h.own.kept hg (.inr ?_), (h.below.setCell (by simp) _).setCell (by simp) _, by simpa using sz,
    (World.cell?_of_block (hb _ hF)).trans h.cf0, (World.cell?_of_block (hb _ hF)).trans h.cf1, (World.cell?_of_block (hb _ hF)).trans h.cf2, fun j => (World.frozen?_of_block (hb _ hF)).trans (h.ff j),
    two, World.cell?_setCell_same _ _ _ one, fun j => ?_⟩
  · intro e
    have := h.own.lt _ e
    omega
  · rw [World.frozen?_setCell, World.frozen?_setCell]; exact h.fa j
end

def Res (s : ByteArray) (k next : Nat) (line col : Int) (ts : List Tok) : Prop := lexL s.data.toList = goL (s.data.toList.drop k) (next - k) line col ts

theorem Res.inside {s : ByteArray} {k next : Nat} {line col : Int} {ts : List Tok} (h : Res s k next line col ts) (hk : k < s.size) (hn : k < next) :
    Res s (k + 1) next (lineB line s[k]) (colB col s[k]) ts := by
  unfold Res at *
  have e : next - k = (next - (k + 1)) + 1 := by omega
  rw [h, drop_at s k hk, e, goL]
theorem Res.gap {s : ByteArray} {k : Nat} {line col : Int} {ts : List Tok} (h : Res s k k line col ts) (hk : k < s.size) (hg : gapL (s.data.toList.drop k) ≠ 0) :
    Res s (k + 1) (k + gapL (s.data.toList.drop k)) (lineB line s[k]) (colB col s[k]) ts := by
  unfold Res at *
  have e : k - k = 0 := by omega
  have e2 : k + gapL (s.data.toList.drop k) - (k + 1) = gapL (s.data.toList.drop k) - 1 := by omega
  rw [e2, h, e]
  rw [drop_at s k hk] at hg ⊢
  rw [goL, if_neg hg]
theorem Res.tok {s : ByteArray} {k : Nat} {line col : Int} {ts : List Tok} (h : Res s k k line col ts) (hk : k < s.size) (hg : gapL (s.data.toList.drop k) = 0) (he : (tokL (s.data.toList.drop k)).err = 0) :
    Res s (k + 1) (k + (tokL (s.data.toList.drop k)).n) (lineB line s[k]) (colB col s[k]) (ts ++ [⟨(tokL (s.data.toList.drop k)).kind, (s.data.toList.drop k).take (tokL (s.data.toList.drop k)).n, (tokL (s.data.toList.drop k)).num, line, col⟩]) := by
  unfold Res at *
  have e : k - k = 0 := by omega
  have e2 : k + (tokL (s.data.toList.drop k)).n - (k + 1) = (tokL (s.data.toList.drop k)).n - 1 := by omega
  rw [e2, h, e]
  rw [drop_at s k hk] at hg he ⊢
  rw [goL, if_pos hg, if_pos he]
theorem Res.bad {s : ByteArray} {k : Nat} {line col : Int} {ts : List Tok} (h : Res s k k line col ts) (hk : k < s.size) (hg : gapL (s.data.toList.drop k) = 0) (he : (tokL (s.data.toList.drop k)).err ≠ 0) :
    lexL s.data.toList = .error ((tokL (s.data.toList.drop k)).err, line, col) := by
  unfold Res at *
  have e : k - k = 0 := by omega
  rw [h, e]
  rw [drop_at s k hk] at hg he ⊢
  rw [goL, if_pos hg, if_neg he]
theorem Res.done {s : ByteArray} {next : Nat} {line col : Int} {ts : List Tok} (h : Res s s.size next line col ts) : lexL s.data.toList = .ok (ts ++ [⟨0, [], 0, line, col⟩]) := by
  unfold Res at h
  rw [h, List.drop_of_length_le (by simp), goL]

theorem gapL_le (l : List UInt8) : gapL l ≤ l.length := by
  unfold gapL
  cases l with
  | nil => simp
  | cons c r =>
    simp only
    split
    · simp
    · split
      · exact spanL_le inLineB (c :: r)
      · simp
theorem tokL_n (l : List UInt8) (h : (tokL l).err = 0) : 1 ≤ (tokL l).n ∧ (tokL l).n ≤ l.length := by
  cases l with
  | nil => simp [tokL] at h
  | cons c r =>
    by_cases hl : letterB (c.toNat : Int) = true
    · rw [tokL_letter rfl hl]
      exact ⟨by have : inNameB (c.toNat : Int) = true := by simp [inNameB, hl]
                simp [spanL, this], spanL_le _ _⟩
    · have hl' : letterB (c.toNat : Int) = false := by simpa using hl
      by_cases hd : digitB (c.toNat : Int) = true
      · cases hq : numL 0 ((c :: r).take (spanL digitB (c :: r))) with
        | none => rw [tokL_none rfl hl' hd hq] at h; simp at h
        | some v =>
          rw [tokL_some rfl hl' hd hq]
          exact ⟨by simp [spanL, hd], spanL_le _ _⟩
      · have hd' : digitB (c.toNat : Int) = false := by simpa using hd
        by_cases hm : 0 < markL (c :: r)
        · rw [tokL_mark rfl hl' hd' hm]
          show 1 ≤ markL (c :: r) ∧ markL (c :: r) ≤ (c :: r).length
          exact ⟨hm, markL_le (c :: r)⟩
        · rw [tokL_sign rfl hl' hd' hm] at h; simp at h

theorem line_le {line : Int} {c : UInt8} {k : Nat} (h1 : 1 ≤ line) (h2 : line ≤ k + 1) : 1 ≤ lineB line c ∧ lineB line c ≤ ((k + 1 : Nat) : Int) + 1 := by unfold lineB; split <;> omega
theorem col_le {col : Int} {c : UInt8} {k : Nat} (h1 : 1 ≤ col) (h2 : col ≤ k + 1) : 1 ≤ colB col c ∧ colB col c ≤ ((k + 1 : Nat) : Int) + 1 := by unfold colB; split <;> omega

def AllPost (s : ByteArray) (w : World) (e : Ending) (w' : World) : Prop :=
  match lexL s.data.toList with
  | .ok ts => ∃ v, e = .returned (.tuple #[v, .agg #[.int .i64 0, .int .i64 0, .int .i64 0]]) ∧ Below w.heap.size w w' ∧ w'.ownsRow (w.heap.size + 2) 31 5 v ts.length (ts.flatMap Tok.cells)
  | .error x => e = .returned (.tuple #[.slice none 0 0, .agg #[.int .i64 x.1, .int .i64 x.2.1, .int .i64 x.2.2]]) ∧ Below w.heap.size w w'

theorem cells_new (w : World) (c : List Value) (t : TypeId) : ∀ j u, c[j]? = some u → (w.alloc (.cells c.toArray t)).cell? ((⟨w.heap.size, 0, none⟩ : Addr).add j) = some u := by
  intro j u hj
  have e : (⟨w.heap.size, 0, none⟩ : Addr).add j = ⟨w.heap.size, j, none⟩ := by unfold Addr.add; split <;> simp_all
  rw [e, World.cell?_alloc_new]
  simpa using hj

theorem own_snoc {w2 : World} {B : Nat} {v2 : Value} {ts : List Tok} {k n l c : Int} {x : ByteArray} {txt : List UInt8} (hx : x.data.toList = txt)
    (h : w2.ownsRow B 31 5 v2 (ts.length + 1) (ts.flatMap Tok.cells ++ [.int .i64 k, .string x, .int .i64 n, .int .i64 l, .int .i64 c])) :
    w2.ownsRow B 31 5 v2 (ts ++ [(⟨k, txt, n, l, c⟩ : Tok)]).length ((ts ++ [(⟨k, txt, n, l, c⟩ : Tok)]).flatMap Tok.cells) := by
  have e : (⟨txt.toArray⟩ : ByteArray) = x := bytes_inj (by rw [← hx])
  simp only [List.length_append, List.length_cons, List.length_nil, List.flatMap_append, List.flatMap_cons, List.flatMap_nil, Tok.cells, List.append_nil, e]
  exact h
theorem Mem.fault {w w2 : World} {v : Value} {ts : List Tok} {line col : Int} (h : Mem w v ts line col w2) (a b c : Value) :
    Below w.heap.size w (((w2.setCell ⟨w.heap.size, 0, none⟩ a).setCell ⟨w.heap.size, 1, none⟩ b).setCell ⟨w.heap.size, 2, none⟩ c) ∧
    (((w2.setCell ⟨w.heap.size, 0, none⟩ a).setCell ⟨w.heap.size, 1, none⟩ b).setCell ⟨w.heap.size, 2, none⟩ c).ownsRow (w.heap.size + 2) 31 5 v ts.length (ts.flatMap Tok.cells) := by
  refine ⟨((h.below.setCell (Nat.le_refl _) _).setCell (Nat.le_refl _) _).setCell (Nat.le_refl _) _, ?_⟩
  refine h.own.kept (row := some w.heap.size) ⟨rfl, rfl, rfl, by simp, fun k _ hk => ?_⟩ (.inr fun e => by have := h.own.lt _ e; omega)
  have hk' : k ≠ w.heap.size := fun e => hk (by rw [e])
  exact (Below.heap_setCell _ _ _ k hk').trans ((Below.heap_setCell _ _ _ k hk').trans (Below.heap_setCell _ _ _ k hk'))

theorem cells_at (w : World) (c : List Value) (t : TypeId) (b : Nat) (hb : b = w.heap.size) : ∀ j u, c[j]? = some u → (w.alloc (.cells c.toArray t)).cell? ((⟨b, 0, none⟩ : Addr).add j) = some u := by
  subst hb; exact cells_new w c t
theorem five_one (a : Int) (x : ByteArray) (b c d : Int) : ∀ u ∈ [Value.int .i64 a, .string x, .int .i64 b, .int .i64 c, .int .i64 d], u.oneCell' = true := by
  intro u hu
  simp only [List.mem_cons, List.not_mem_nil, or_false] at hu
  rcases hu with rfl | rfl | rfl | rfl | rfl <;> rfl

theorem token_at (x : ByteArray) (hs : x.size ≤ 65536) (h0 : 0 < x.size) (t : T0) (ht : tokL x.data.toList = t) (y : ByteArray) (hy : x.extract 0 t.n = y) (w : World) :
    Calls Tryd.prog 12 #[.string x] w fun e w' => e = .returned (.tuple #[.agg #[.int .i64 t.kind, .string y, .int .i64 t.num, .int .i64 0, .int .i64 0], .int .i64 t.err]) ∧ Below w.heap.size w w' := by
  subst ht
  subst hy
  exact token_any x hs h0 w

theorem gap_at (x : ByteArray) (hs : x.size ≤ 65536) (h0 : 0 < x.size) (g : Nat) (hg : gapL x.data.toList = g) (w : World) :
    Calls Tryd.prog 11 #[.string x] w fun e w' => e = .returned (.int .i64 g) ∧ w = w' := by
  subst hg
  exact gap_any x hs h0 w

set_option maxHeartbeats 4000000 in
set_option maxRecDepth 100000 in
theorem all_any (s : ByteArray) (hs : s.size ≤ 65536) (w : World) :
    Calls Tryd.prog 8 #[.string s] w (AllPost s w) := by
  obtain ⟨i0, hi, hz0, hz1, hz2⟩ := info_parts info34
  have HI0 := Lib.hid hi; have HZ0 := Lib.hid hz0; have HZ1 := Lib.hid hz1; have HZ2 := Lib.hid hz2
  clear hi hz0 hz1 hz2
  go_enter Tryd.func8, Tryd.ntmps8
  go_wp2_with (fail)
  go_loopw [5, 6, 19] (fun out nx i wr => ∃ (k next : Nat) (line col : Int) (ts : List Tok), k ≤ s.size ∧ k ≤ next ∧ next ≤ s.size ∧ Res s k next line col ts ∧ Mem w out ts line col wr ∧ (1 ≤ line ∧ line ≤ k + 1 ∧ 1 ≤ col ∧ col ≤ k + 1 ∧ ts.length ≤ k) ∧ nx = .int .i64 next ∧ i = .int .i64 k) (fun _ _ i _ => s.size - (intOf i).toNat)
  case atStart =>
    refine ⟨0, 0, 1, 1, [], Nat.zero_le _, Nat.le_refl _, Nat.zero_le _, rfl, ⟨World.ownsRow_nil _ _ _ _, ((Below.refl _ _).alloc (Nat.le_refl _) _).alloc (by simp) _, by simp, ?_, ?_, ?_, ?_, ?_, ?_, ?_⟩, ⟨by decide, by decide, by decide, by decide, by simp⟩, rfl, rfl⟩
    all_goals first | (simp; done) | (intro j; simp; done) | trace_state
  case round =>
    obtain ⟨k, next, line, col, ts, hk, hkn, hns, hres, hmem, ⟨l1, l2, c1, c2, hfew⟩, rfl, rfl⟩ := hrel
    have HR := Lib.hid hres; have HM := Lib.hid hmem
    have sz := hmem.size
    have szA : w.heap.size + 1 < wr.heap.size := by omega
    have szF : w.heap.size < wr.heap.size := by omega
    have cf0 := hmem.cf0; have cf1 := hmem.cf1; have cf2 := hmem.cf2; have ff := hmem.ff
    have ca0 := hmem.ca0; have ca1 := hmem.ca1; have fa := hmem.fa
    clear hres hmem
    by_cases hlt : k < s.size
    · by_cases heq : k = next
      · obtain rfl : next = k := heq.symm
        have hxd : (s.extract next s.size).data.toList = s.data.toList.drop next := by
          rw [Lib.extract_data, List.take_of_length_le (by simp)]
        have hxs : (s.extract next s.size).size = s.size - next := by simp
        have hgl := gapL_le (s.extract next s.size).data.toList
        have hgl2 : gapL (s.extract next s.size).data.toList ≤ s.size - next := by rw [← hxs]; simpa using hgl
        have HX := Lib.hid hxd; have HXS := Lib.hid hxs
        clear hxd hxs hgl
        generalize hgg : gapL (s.extract next s.size).data.toList = g at hgl2
        have HGG := Lib.hid hgg; clear hgg
        by_cases hg : g = 0
        · have hg' : ((g : Int) == 0) = true := by rw [hg]; rfl
          have HG := Lib.hid hg
          clear hg
          generalize ht : tokL (s.extract next s.size).data.toList = t
          have HT := Lib.hid ht
          clear ht
          generalize hyy : (s.extract next s.size).extract 0 t.n = y
          have HY := Lib.hid hyy
          clear hyy
          by_cases he : t.err = 0
          · have he' : (t.err != 0) = false := by simpa using he
            have hyn : y.size = t.n ∧ 1 ≤ t.n ∧ t.n ≤ s.size - next := by
              have h1 := tokL_n (s.extract next s.size).data.toList (by rw [HT.out]; exact he)
              rw [HT.out] at h1
              have h2 : (s.extract next s.size).data.toList.length = s.size - next := by rw [HX.out]; simp
              rw [h2] at h1
              refine ⟨?_, h1⟩
              rw [← HY.out]
              have := HXS.out
              simp
              omega
            have hy1 : 1 ≤ y.size := by omega
            have hy2 : y.size ≤ s.size - next := by omega
            have HYN := Lib.hid hyn.1
            clear hyn
            go_wp2_with (fail)
            refine (gap_at _ (by have := HXS.out; omega) (by have := HXS.out; omega) g HGG.out _).mono ?_; rintro e w' ⟨rfl, rfl⟩
            go_wp2_with (fail)
            refine (token_at _ (by have := HXS.out; omega) (by have := HXS.out; omega) t HT.out y HY.out _).mono ?_; rintro e w1 ⟨rfl, hb⟩
            have HM1 := Lib.hid (HM.out.later hb)
            have szA1 : w.heap.size + 1 < w1.heap.size := by have := HM1.out.size; omega
            have szF1 : w.heap.size < w1.heap.size := by omega
            have cg0 := HM1.out.cf0; have cg1 := HM1.out.cf1; have cg2 := HM1.out.cf2; have fg := HM1.out.ff
            have cb0 := HM1.out.ca0; have cb1 := HM1.out.ca1; have fb := HM1.out.fa
            have hbs := hb.size
            clear hb cf0 cf1 cf2 ff ca0 ca1 fa
            go_wp2_with (first | (at_builtin; refine wpList_append_own _ rfl _ _ 24 rfl (w.heap.size + 2) 31 i0 (.agg #[.int .i64 0, .string ⟨#[]⟩, .int .i64 0, .int .i64 0, .int .i64 0]) 5 48 Tryd.underlying24 HI0.out HZ0.out HZ1.out HZ2.out rfl (by decide) _ ts.length (ts.flatMap Tok.cells) rfl ?hown ⟨w1.heap.size + 1, 0, none⟩ 1 1 [.int .i64 t.kind, .string y, .int .i64 t.num, .int .i64 line, .int .i64 col] rfl rfl ?hnews ?h1 ?h63 ?hby ?hba ?_))
            case hown => exact (HM1.out.own.alloc _).alloc _
            case hnews => exact cells_at _ [.int .i64 t.kind, .string y, .int .i64 t.num, .int .i64 line, .int .i64 col] _ _ (by simp)
            case h1 => exact five_one _ _ _ _ _
            case h63 => unfold maxLen; omega
            case hby => omega
            case hba => simp; omega
            intro v2 w2 hown2 hgrow2 hnil2
            have hT : y.data.toList = (s.data.toList.drop next).take t.n := by rw [← HY.out, take_extract, HX.out]
            have hrow : ∀ j, Value.ownBlock u5 = some j → w.heap.size + 2 ≤ j ∧ j < wr.heap.size := HM.out.own.lt
            have hct : w2.cell? ⟨w1.heap.size, 1, none⟩ = some (.string y) := hgrow2.cell (by simp) (fun e => by have := hrow _ e.symm; simp only at this; omega)
            have HM2 := Lib.hid (((HM1.out.later ((Below.refl _ _).alloc (Nat.le_refl _) _)).later ((Below.refl _ _).alloc (Nat.le_refl _) _)).grown hgrow2 (fun j hj => (hrow j hj).1) (own_snoc hT hown2))
            have szA2 : w.heap.size + 1 < w2.heap.size := by have := HM2.out.size; omega
            have cb0 := HM2.out.ca0; have cb1 := HM2.out.ca1; have fb := HM2.out.fa
            have HB := Lib.hid (behind_in (w.heap.size + 1) line col s[next] (by omega) (by omega) (by omega) (by omega) w2 (by omega) cb0 cb1 fb)
            have HTX := Lib.hid hT
            clear hT hrow hown2 hgrow2 hnil2 cg0 cg1 cg2 fg
            go_wp2_with (fail)
            go_region_with ((go_at_call 13; refine (HB.out _ (by repeat (first | exact Below.refl _ _ | apply Below.drew))).mono ?_; rintro e w9 ⟨rfl, hb9, ca0', ca1', fa'⟩))
            all_goals
              go_wp2_with (fail)
              go_roundw
              case rel =>
                have hl := line_le (c := s[next]) l1 l2
                have hc := col_le (c := s[next]) c1 c2
                have hyn := HYN.out
                refine ⟨next + 1, next + y.size, lineB line s[next], colB col s[next], ts ++ [⟨t.kind, (s.data.toList.drop next).take t.n, t.num, line, col⟩], by omega, by omega, by omega, ?_, (HM2.out.later hb9).put _ _, ⟨hl.1, hl.2, hc.1, hc.2, by simp; omega⟩, by go_num, by go_num⟩
                have h1 := HT.out
                rw [HX.out] at h1
                have h2 := HGG.out
                rw [HX.out, HG.out] at h2
                have h3 := HR.out.tok hlt h2 (by rw [h1]; exact he)
                rw [h1] at h3
                rw [hyn]
                exact h3
              case measure => simp [intOf]; omega
          · have he' : (t.err != 0) = true := by simpa using he
            go_wp2_with (fail)
            refine (gap_at _ (by have := HXS.out; omega) (by have := HXS.out; omega) g HGG.out _).mono ?_; rintro e w' ⟨rfl, rfl⟩
            go_wp2_with (fail)
            refine (token_at _ (by have := HXS.out; omega) (by have := HXS.out; omega) t HT.out y HY.out _).mono ?_; rintro e w1 ⟨rfl, hb⟩
            have HM1 := Lib.hid (HM.out.later hb)
            have szA1 : w.heap.size + 1 < w1.heap.size := by have := HM1.out.size; omega
            have szF1 : w.heap.size < w1.heap.size := by omega
            have cg0 := HM1.out.cf0; have cg1 := HM1.out.cf1; have cg2 := HM1.out.cf2; have fg := HM1.out.ff
            have cb0 := HM1.out.ca0; have cb1 := HM1.out.ca1; have fb := HM1.out.fa
            have hbs := hb.size
            clear hb cf0 cf1 cf2 ff ca0 ca1 fa
            go_wp2_with (fail)
            go_region
            go_wp2_with (fail)
            refine bodyPost_ret (v := .tuple #[.slice none 0 0, .agg #[.int .i64 t.err, .int .i64 line, .int .i64 col]]) (by simp [results, Tryd.results8, go_sem, szF1, cg0, cg1, cg2]) rfl ?_
            have h1 := HT.out
            rw [HX.out] at h1
            have h2 := HGG.out
            rw [HX.out, HG.out] at h2
            have h3 := HR.out.bad hlt h2 (by rw [h1]; exact he)
            rw [h1] at h3
            unfold AllPost
            rw [h3]
            refine ⟨rfl, ?_⟩
            have hz := HM1.out.below.size
            exact (Below.alloc (((HM1.out.below.setCell (Nat.le_refl _) _).setCell (Nat.le_refl _) _).setCell (Nat.le_refl _) _) (by simp; omega) _).drew
        · have hg' : ((g : Int) == 0) = false := by simp; omega
          have hg0 : 1 ≤ g := by omega
          clear hg
          have HB := Lib.hid (behind_in (w.heap.size + 1) line col s[next] (by omega) (by omega) (by omega) (by omega) wr (by omega) ca0 ca1 fa)
          go_wp2_with (fail)
          refine (gap_at _ (by have := HXS.out; omega) (by have := HXS.out; omega) g HGG.out _).mono ?_; rintro e w' ⟨rfl, rfl⟩
          go_wp2_with (fail)
          go_region_with ((go_at_call 13; refine (HB.out _ (by repeat (first | exact Below.refl _ _ | apply Below.drew))).mono ?_; rintro e w9 ⟨rfl, hb9, ca0', ca1', fa'⟩))
          all_goals
            go_wp2_with (fail)
            go_roundw
            case rel =>
              have hl := line_le (c := s[next]) l1 l2
              have hc := col_le (c := s[next]) c1 c2
              refine ⟨next + 1, next + g, lineB line s[next], colB col s[next], ts, by omega, by omega, by omega, ?_, (HM.out.later hb9).put _ _, ⟨hl.1, hl.2, hc.1, hc.2, by omega⟩, by go_num, by go_num⟩
              have h1 := HGG.out
              rw [HX.out] at h1
              subst h1
              exact HR.out.gap hlt (by omega)
            case measure => simp [intOf]; omega
      · have hne : ((k : Int) == (next : Int)) = false := by simp; omega
        have hkn' : k < next := by omega
        have HB := Lib.hid (behind_in (w.heap.size + 1) line col s[k] (by omega) (by omega) (by omega) (by omega) wr (by omega) ca0 ca1 fa)
        go_wp2_with (fail)
        go_region_with ((go_at_call 13; refine (HB.out _ (by repeat (first | exact Below.refl _ _ | apply Below.drew))).mono ?_; rintro e w9 ⟨rfl, hb9, ca0', ca1', fa'⟩))
        all_goals
          go_wp2_with (fail)
          go_roundw
          case rel =>
            have hl := line_le (c := s[k]) l1 l2
            have hc := col_le (c := s[k]) c1 c2
            exact ⟨k + 1, next, lineB line s[k], colB col s[k], ts, by omega, by omega, hns, HR.out.inside hlt hkn', (HM.out.later hb9).put _ _, ⟨hl.1, hl.2, hc.1, hc.2, by omega⟩, rfl, by go_num⟩
          case measure => simp [intOf]; omega
    · obtain rfl : k = s.size := by omega
      go_wp2_with (first | (at_builtin; refine wpList_append_own _ rfl _ _ 24 rfl (w.heap.size + 2) 31 i0 (.agg #[.int .i64 0, .string ⟨#[]⟩, .int .i64 0, .int .i64 0, .int .i64 0]) 5 48 Tryd.underlying24 HI0.out HZ0.out HZ1.out HZ2.out rfl (by decide) _ ts.length (ts.flatMap Tok.cells) rfl ?hown ⟨wr.heap.size, 0, none⟩ 1 1 [.int .i64 0, .string (⟨#[]⟩), .int .i64 0, .int .i64 line, .int .i64 col] rfl rfl ?hnews ?h1 ?h63 ?hby ?hba ?_))
      case hown => exact HM.out.own.alloc _
      case hnews => exact cells_at _ [.int .i64 0, .string (⟨#[]⟩), .int .i64 0, .int .i64 line, .int .i64 col] _ _ (by simp)
      case h1 => exact five_one _ _ _ _ _
      case h63 => unfold maxLen; omega
      case hby => omega
      case hba => simp; omega
      intro v2 w2 hown2 hgrow2 hnil2
      have hrow : ∀ j, Value.ownBlock u5 = some j → w.heap.size + 2 ≤ j ∧ j < wr.heap.size := HM.out.own.lt
      have HM2 := Lib.hid ((HM.out.later ((Below.refl _ _).alloc (Nat.le_refl _) _)).grown hgrow2 (fun j hj => (hrow j hj).1) (own_snoc (txt := []) rfl hown2))
      have szA2 : w.heap.size + 1 < w2.heap.size := by have := HM2.out.size; omega
      have szF2 : w.heap.size < w2.heap.size := by omega
      have cg0 := HM2.out.cf0; have cg1 := HM2.out.cf1; have cg2 := HM2.out.cf2; have fg := HM2.out.ff
      clear hrow hown2 hgrow2 hnil2 cf0 cf1 cf2 ff
      go_wp2_with (fail)
      refine bodyPost_ret (v := .tuple #[v2, .agg #[.int .i64 0, .int .i64 0, .int .i64 0]]) (by simp [results, Tryd.results8, go_sem, cg0, cg1, cg2]) rfl ?_
      unfold AllPost
      rw [HR.out.done]
      have hfin := HM2.out.fault (.int .i64 0) (.int .i64 0) (.int .i64 0)
      exact ⟨v2, rfl, hfin.1, hfin.2⟩
end Go.Proofs.YteapdemofkmonaaDoor
