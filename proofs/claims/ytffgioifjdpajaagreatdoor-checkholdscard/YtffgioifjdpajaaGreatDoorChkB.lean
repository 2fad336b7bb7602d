/-
  The checker: fail, known, variable, array.
-/
import Derived.Test.YtffgioifjdpajaaGreatDoorChkA
namespace Go.Proofs.YtffgioifjdpajaaGreatDoor
open Go.ChangeShapes Go.WideShapes Go.ChangeAt Go.RowKit
set_option linter.unusedVariables false

theorem uMapI : Tryz.prog.underlying 28 = some (.map 9 3) := by kernel_rfl
theorem uMapT : Tryz.prog.underlying 69 = some (.map 9 82) := by kernel_rfl
/-- Its cells, one by one. -/
theorem Checks.open {base C G F : Nat} {lv : Value} {k : Ck} {w : World} (h : Checks base C G F lv k w) : ∃ gv fv, C < w.heap.size ∧ GlsAt w (· < base) k.gs gv ∧ FnsAt w (· < base) k.fs fv ∧
    w.cell? ⟨C, 0, none⟩ = some gv ∧ w.cell? ⟨C, 1, none⟩ = some fv ∧ w.cell? ⟨C, 2, none⟩ = some (.map (some G)) ∧ w.cell? ⟨C, 3, none⟩ = some (.map (some F)) ∧ w.cell? ⟨C, 4, none⟩ = some lv ∧ w.cell? ⟨C, 5, none⟩ = some (.int .i64 k.err) ∧ w.cell? ⟨C, 6, none⟩ = some (.int .i64 k.line) ∧ w.cell? ⟨C, 7, none⟩ = some (.int .i64 k.col) ∧ ∀ j, w.frozen? ⟨C, j, none⟩ = false := by
  obtain ⟨gv, fv, hb, h1, h2⟩ := h.blk
  refine ⟨gv, fv, (Array.getElem?_eq_some_iff.1 hb).1, h1, h2, ?_, ?_, ?_, ?_, ?_, ?_, ?_, ?_, fun j => Lib.frozen_of_heap hb j⟩ <;> (rw [Lib.cell_of_heap hb]; rfl)
/-- The fault is written. -/
theorem Checks.fault {base C G F : Nat} {lv : Value} {k : Ck} {w : World} (h : Checks base C G F lv k w) (e l c : Int) : Checks base C G F lv { k with err := e, line := l, col := c } (((w.setCell ⟨C, 5, none⟩ (.int .i64 e)).setCell ⟨C, 6, none⟩ (.int .i64 l)).setCell ⟨C, 7, none⟩ (.int .i64 c)) := by
  obtain ⟨⟨gv, fv, hb, h1, h2⟩, h3, h4, h5, h6, h7, h8, h9⟩ := h
  have ht : Turn (· = C) w (((w.setCell ⟨C, 5, none⟩ (.int .i64 e)).setCell ⟨C, 6, none⟩ (.int .i64 l)).setCell ⟨C, 7, none⟩ (.int .i64 c)) := (((Turn.refl (· = C) w).put C 5 _ (.inl rfl)).put C 6 _ (.inl rfl)).put C 7 _ (.inl rfl)
  have hk : ∀ g, g < base → g < w.heap.size → ∀ o, (((w.setCell ⟨C, 5, none⟩ (.int .i64 e)).setCell ⟨C, 6, none⟩ (.int .i64 l)).setCell ⟨C, 7, none⟩ (.int .i64 c)).cell? ⟨g, o, none⟩ = w.cell? ⟨g, o, none⟩ := fun g hg hl o => ht.cell hl (by have := h6.1; omega) o
  refine ⟨⟨gv, fv, ?_, h1.keep ht.size (fun g hg _ => hg) hk, h2.keep ht.size (fun g hg _ => hg) hk⟩, h3.keep (ht.block G h3.lt (map_ne h3 hb)), h4.keep (ht.block F h4.lt (map_ne h4 hb)), ?_, h6, h7, h8, h9⟩
  · rw [set_block _ _ _ _ _ _ (set_block _ _ _ _ _ _ (set_block _ _ _ _ _ _ hb))]; rfl
  · rcases h5 with h5 | ⟨L, rfl, h5⟩
    · exact .inl h5
    · exact .inr ⟨L, rfl, h5.keep (ht.block L h5.lt (map_ne h5 hb))⟩
theorem Checks.alloc {base C G F : Nat} {lv : Value} {k : Ck} {w : World} (h : Checks base C G F lv k w) (o : Obj) : Checks base C G F lv k (w.alloc o) :=
  h.keep (X := fun _ => False) (Turn.grown (grown_alloc w o) (fun _ q => by cases q)) (fun _ q => q.elim)
def CkPost (base C G F : Nat) (lv : Value) (k' : Ck) (v : Value) (w : World) (e : Ending) (w' : World) : Prop := e = .returned v ∧ Turn (· = C) w w' ∧ Checks base C G F lv k' w'
set_option maxHeartbeats 1000000 in
set_option maxRecDepth 100000 in
theorem ckfail_any {base C G F : Nat} {lv : Value} {k : Ck} {w : World} (h : Checks base C G F lv k w) (e l c : Int) : Calls Tryz.prog 28 #[.pointer (some ⟨C, 0, none⟩), .int .i64 e, .agg #[.int .i64 l, .int .i64 c]] w (CkPost base C G F lv (k.fail e l c) (.tuple #[]) w) := by
  have HC := Lib.hid h
  obtain ⟨gv, fv, hlt, _, _, _, _, _, _, _, c5, c6, c7, hf⟩ := h.open
  have f5 := hf 5; have f6 := hf 6; have f7 := hf 7
  clear h hf
  by_cases he : k.err = 0
  · have b0 : (k.err == 0) = true := by simpa using he
    have HK := Lib.hid (show k.fail e l c = { k with err := e, line := l, col := c } by unfold Ck.fail; rw [if_pos he])
    clear he
    go_enter Tryz.func28, Tryz.ntmps28
    go_wp2_with (fail)
    go_end0
    unfold CkPost
    rw [HK.out]
    exact ⟨rfl, ((((Turn.refl (· = C) w).put C 5 _ (.inl rfl)).put C 6 _ (.inl rfl)).put C 7 _ (.inl rfl)).alloc _, (HC.out.fault e l c).alloc _⟩
  · have b0 : (k.err == 0) = false := by simpa using he
    have HK := Lib.hid (show k.fail e l c = k by unfold Ck.fail; rw [if_neg he])
    clear he
    go_enter Tryz.func28, Tryz.ntmps28
    go_wp2_with (fail)
    go_end0
    unfold CkPost
    rw [HK.out]
    exact ⟨rfl, (Turn.refl (· = C) w).alloc _, HC.out.alloc _⟩
/-- The look-ups of a name, as the walk asks for them. -/
theorem Checks.looks {base C G F : Nat} {lv : Value} {k : Ck} {w : World} (h : Checks base C G F lv k w) {x : List UInt8} (hx : x.length ≤ maxLen) :
    (Instr.lookup 28 (.map (some G)) (.string ⟨x.toArray⟩) true).run Tryz.prog w = .ok (.tuple #[.int .i64 ((look k.gm x).getD 0), .bool (look k.gm x).isSome]) w ∧
    (Instr.lookup 28 (.map (some F)) (.string ⟨x.toArray⟩) true).run Tryz.prog w = .ok (.tuple #[.int .i64 ((look k.fm x).getD 0), .bool (look k.fm x).isSome]) w ∧
    (Instr.lookup 69 lv (.string ⟨x.toArray⟩) true).run Tryz.prog w = .ok (.tuple #[.int .i64 ((look k.lm x).getD 0), .bool (look k.lm x).isSome]) w := by
  refine ⟨h.gm.look wInt uMapI hx, h.fm.look wInt uMapI hx, ?_⟩
  rcases h.lm with ⟨rfl, hm⟩ | ⟨L, rfl, hL⟩
  · rw [hm]
    exact Maps.look_nil true strKeyed uMapT (zType w) (key_str hx)
  · exact hL.look wType uMapT hx
set_option maxHeartbeats 1000000 in
set_option maxRecDepth 100000 in
theorem ckknown_any {base C G F : Nat} {lv : Value} {k : Ck} {w : World} (h : Checks base C G F lv k w) (x : List UInt8) (hx : x.length ≤ maxLen) : Calls Tryz.prog 29 #[.pointer (some ⟨C, 0, none⟩), .string ⟨x.toArray⟩] w fun e w' => e = .returned (.bool (k.known x)) ∧ w' = w := by
  obtain ⟨gv, fv, hlt, _, _, c0, c1, c2, c3, c4, _, _, _, hf⟩ := h.open
  obtain ⟨l1, l2, l3⟩ := h.looks hx
  have HK := Lib.hid (show k.known x = ((look k.lm x).isSome || (look k.gm x).isSome || (look k.fm x).isSome) from rfl)
  clear h hf hx
  rw [HK.out]
  generalize (look k.lm x).isSome = b1 at l3
  generalize (look k.gm x).isSome = b2 at l1
  generalize (look k.fm x).isSome = b3 at l2
  generalize (look k.lm x).getD 0 = v1 at l3
  generalize (look k.gm x).getD 0 = v2 at l1
  generalize (look k.fm x).getD 0 = v3 at l2
  clear HK
  cases b1 <;> cases b2 <;> cases b3
  all_goals
    go_enter Tryz.func29, Tryz.ntmps29
    go_wp2_with (fail)
    go_ret
    exact ⟨rfl, rfl⟩
end Go.Proofs.YtffgioifjdpajaaGreatDoor
