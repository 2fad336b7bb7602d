/-
  What ast's write does: expressions with kids.
-/
import Derived.Test.YtgnnendcgbijnaaDoorAstC
namespace Go.Proofs.YtgnnendcgbijnaaDoor
open Go.ChangeShapes Go.WideShapes Go.ChangeAt Go.RowKit
set_option linter.unusedVariables false

/-- One of several kids, cell by cell. -/
theorem kid_cells {w : World} {S : Nat → Prop} {g o : Nat} {kids : List Ex} (h : Ex.Row w S g o kids) (i : Nat) (hi : i < kids.length) : ∃ kind line col num name op ka kn kc, kids[i].At w S (cells7 kind line col num name op (.slice ka kn kc)) ∧
    w.cell? ⟨g, o + i * 7, none⟩ = some (.int .i64 kind) ∧ w.cell? ⟨g, o + i * 7 + 1, none⟩ = some (.int .i64 line) ∧ w.cell? ⟨g, o + i * 7 + 2, none⟩ = some (.int .i64 col) ∧ w.cell? ⟨g, o + i * 7 + 3, none⟩ = some (.int .i64 num) ∧
    w.cell? ⟨g, o + i * 7 + 4, none⟩ = some (.string ⟨name.toArray⟩) ∧ w.cell? ⟨g, o + i * 7 + 5, none⟩ = some (.int .i64 op) ∧ w.cell? ⟨g, o + i * 7 + 6, none⟩ = some (.slice ka kn kc) := by
  obtain ⟨cs, h1, h2⟩ := h.get o kids i hi
  obtain ⟨kind, line, col, num, name, op, ka, kn, kc, rfl⟩ := h1.cells
  have hc : ∀ j, j < 7 → w.cell? ⟨g, o + i * 7 + j, none⟩ = (cells7 kind line col num name op (.slice ka kn kc))[j]? := fun j hj => by
    have e : o + i * 7 + j = o + (7 * i + j) := by omega
    rw [e]; exact h2 j hj
  exact ⟨kind, line, col, num, name, op, ka, kn, kc, h1, hc 0 (by decide), hc 1 (by decide), hc 2 (by decide), hc 3 (by decide), hc 4 (by decide), hc 5 (by decide), hc 6 (by decide)⟩

/-- The own copy's cells. -/
theorem own7 {w : World} {k : Nat} {kind line col num : Int} {name : List UInt8} {op : Int} {kv : Value} (h : w.heap[k]? = some (.cells (cells7 kind line col num name op kv) 51 (0, 0))) :
    w.cell? ⟨k, 0, none⟩ = some (.int .i64 kind) ∧ w.cell? ⟨k, 1, none⟩ = some (.int .i64 line) ∧ w.cell? ⟨k, 2, none⟩ = some (.int .i64 col) ∧ w.cell? ⟨k, 3, none⟩ = some (.int .i64 num) ∧
    w.cell? ⟨k, 4, none⟩ = some (.string ⟨name.toArray⟩) ∧ w.cell? ⟨k, 5, none⟩ = some (.int .i64 op) ∧ w.cell? ⟨k, 6, none⟩ = some kv := by
  refine ⟨?_, ?_, ?_, ?_, ?_, ?_, ?_⟩ <;> (rw [Lib.cell_of_heap h]; rfl)

theorem alloc_heap (w : World) (o : Obj) : (w.alloc o).heap[w.heap.size]? = some o := heap_alloc_new w o
theorem Ex.text_mk (kind line col num : Int) (name : List UInt8) (op : Int) (kids : List Ex) : (Ex.mk kind line col num name op kids).text = textOf kind num name op (Ex.texts kids) := by rw [Ex.text]

theorem texts_nil {kids : List Ex} : Ex.texts kids = [] ↔ kids = [] := by cases kids <;> simp [Ex.texts]

set_option maxHeartbeats 1000000 in
set_option maxRecDepth 100000 in
theorem write_none (kind line col num : Int) (name : List UInt8) (op : Int) (h1 : (kind == 1) = false) (h2 : (kind == 2) = false) (h3 : (kind == 3) = false) (h5 : (kind == 5) = false) : WriteOk (.mk kind line col num name op []) := by
  intro cs B b l w hat hd hlen
  unfold Ex.At at hat
  obtain ⟨_, _, kv, rfl, _, hk⟩ := hat
  obtain ⟨a, cap, rfl⟩ : ∃ a cap, kv = .slice a 0 cap := by rcases hk with ⟨_, h⟩ | ⟨h, _⟩; exact h; exact absurd rfl h
  have ht : (Ex.mk kind line col num name op []).text = [63] := by
    unfold Ex.text textOf
    rw [if_neg (by simpa using h1), if_neg (by simpa using h2), if_neg (by simpa using h3), if_neg (by simpa using h5)]; rfl
  rw [ht] at hlen ⊢
  have HD := Lib.hid hd; clear hd ht hk
  unfold cells7
  go_enter Tryd.func13, Tryd.ntmps13
  go_wp2_with (fail)
  refine (wr_any B b l [63] _ rfl _ (HD.out.wrote (HD.out.alloc _)) hlen).mono ?_
  rintro e w' ⟨n, rfl, hw⟩
  have HW := Lib.hid hw; clear hw
  go_wp2_with (fail)
  go_end0
  exact ⟨rfl, (HD.out.alloc _).trans HW.out⟩

set_option maxHeartbeats 1000000 in
set_option maxRecDepth 100000 in
theorem write_not (line col num : Int) (name : List UInt8) (op : Int) (k0 : Ex) (kids : List Ex) (ih : WriteOk k0) : WriteOk (.mk 9 line col num name op (k0 :: kids)) := by
  intro cs B b l w hat hd hlen
  unfold Ex.At at hat
  obtain ⟨_, _, kv, rfl, _, hk⟩ := hat
  obtain ⟨g, o, cap, rfl, hg, hcap, hmax, hrow⟩ : ∃ g o cap, kv = .slice (some ⟨g, o, none⟩) (k0 :: kids).length cap ∧ g < B ∧ (k0 :: kids).length ≤ cap ∧ (k0 :: kids).length ≤ 4611686018427387904 ∧ Ex.Row w (· < B) g o (k0 :: kids) := by
    rcases hk with ⟨h, _⟩ | ⟨_, h⟩; exact absurd h (by simp); exact h
  have ht : (Ex.mk 9 line col num name op (k0 :: kids)).text = [33] ++ k0.text := by rw [Ex.text_mk]; unfold textOf; simp [Ex.texts]
  rw [ht] at hlen ⊢
  simp only [List.length_append, List.length_cons, List.length_nil] at hlen
  generalize hn : (k0 :: kids).length = n at hcap hmax
  have hn0 : 0 < n := by rw [← hn]; simp
  have HN := Lib.hid hn
  clear hn
  have HD := Lib.hid hd; have HR := Lib.hid hrow; clear hd ht hk hrow
  have hBw := HD.out.le
  unfold cells7
  go_enter Tryd.func13, Tryd.ntmps13
  go_wp2_with (fail)
  refine (wr_any B b l [33] _ rfl _ (HD.out.wrote (HD.out.alloc _)) (by simp; omega)).mono ?_
  rintro e w1 ⟨n1, rfl, hw1⟩
  have hbx := box_at (w := w.alloc (.cells (cells7 9 line col num name op (.slice (some ⟨g, o, none⟩) n cap)) 51)) (k := w.heap.size) (alloc_heap _ _) (Nat.ne_of_gt HD.out.ne) hw1.kept
  obtain ⟨c0, c1, c2, c3, c4, c5, c6⟩ := own7 hbx
  have hall := (HD.out.alloc (.cells (cells7 9 line col num name op (.slice (some ⟨g, o, none⟩) n cap)) 51)).trans hw1
  have hrow1 := Ex.Row.later hall.below g hg o _ HR.out
  obtain ⟨kind', line', col', num', name', op', ka', kn', kc', hat', d0, d1, d2, d3, d4, d5, d6⟩ := kid_cells hrow1 0 (by simp)
  simp only [Nat.zero_mul, Nat.add_zero] at d0 d1 d2 d3 d4 d5 d6
  have HA := Lib.hid hat'; have HALL := Lib.hid hall; have HD1 := Lib.hid (HD.out.wrote hall)
  clear hat' hall hrow1 hw1 hbx
  go_wp2_with (fail)
  refine (ih _ B b (l ++ [33]) _ HA.out HD1.out (by simp; omega)).mono ?_
  rintro e w2 ⟨rfl, hw2⟩
  have HW := Lib.hid hw2; clear hw2
  go_wp2_with (fail)
  go_end0
  refine ⟨rfl, ?_⟩
  have := HALL.out.trans HW.out
  rwa [List.append_assoc] at this

set_option maxHeartbeats 1000000 in
set_option maxRecDepth 100000 in
theorem write_index (line col num : Int) (name : List UInt8) (op : Int) (k0 : Ex) (kids : List Ex) (ih : WriteOk k0) : WriteOk (.mk 4 line col num name op (k0 :: kids)) := by
  intro cs B b l w hat hd hlen
  unfold Ex.At at hat
  obtain ⟨_, _, kv, rfl, _, hk⟩ := hat
  obtain ⟨g, o, cap, rfl, hg, hcap, hmax, hrow⟩ : ∃ g o cap, kv = .slice (some ⟨g, o, none⟩) (k0 :: kids).length cap ∧ g < B ∧ (k0 :: kids).length ≤ cap ∧ (k0 :: kids).length ≤ 4611686018427387904 ∧ Ex.Row w (· < B) g o (k0 :: kids) := by
    rcases hk with ⟨h, _⟩ | ⟨_, h⟩; exact absurd h (by simp); exact h
  have ht : (Ex.mk 4 line col num name op (k0 :: kids)).text = name ++ [91] ++ k0.text ++ [93] := by rw [Ex.text_mk]; unfold textOf; simp [Ex.texts]
  rw [ht] at hlen ⊢
  simp only [List.length_append, List.length_cons, List.length_nil] at hlen
  generalize hn : (k0 :: kids).length = n at hcap hmax
  have hn0 : 0 < n := by rw [← hn]; simp
  have HN := Lib.hid hn
  clear hn
  have HD := Lib.hid hd; have HR := Lib.hid hrow; clear hd ht hk hrow
  have hBw := HD.out.le
  unfold cells7
  go_enter Tryd.func13, Tryd.ntmps13
  go_wp2_with (fail)
  refine (wr_any B b l (name ++ [91]) _ (by simp) _ (HD.out.wrote (HD.out.alloc _)) (by simp; omega)).mono ?_
  rintro e w1 ⟨n1, rfl, hw1⟩
  have hbx := box_at (w := w.alloc (.cells (cells7 4 line col num name op (.slice (some ⟨g, o, none⟩) n cap)) 51)) (k := w.heap.size) (alloc_heap _ _) (Nat.ne_of_gt HD.out.ne) hw1.kept
  obtain ⟨c0, c1, c2, c3, c4, c5, c6⟩ := own7 hbx
  have hall := (HD.out.alloc (.cells (cells7 4 line col num name op (.slice (some ⟨g, o, none⟩) n cap)) 51)).trans hw1
  have hrow1 := Ex.Row.later hall.below g hg o _ HR.out
  obtain ⟨kind', line', col', num', name', op', ka', kn', kc', hat', d0, d1, d2, d3, d4, d5, d6⟩ := kid_cells hrow1 0 (by simp)
  simp only [Nat.zero_mul, Nat.add_zero] at d0 d1 d2 d3 d4 d5 d6
  have HA := Lib.hid hat'; have HALL := Lib.hid hall; have HD1 := Lib.hid (HD.out.wrote hall)
  clear hat' hall hrow1 hw1 hbx
  go_wp2_with (fail)
  refine (ih _ B b _ _ HA.out HD1.out (by simp; omega)).mono ?_
  rintro e w2 ⟨rfl, hw2⟩
  have HW := Lib.hid hw2; have HD2 := Lib.hid (HD1.out.wrote hw2); clear hw2
  go_wp2_with (fail)
  refine (wr_any B b _ [93] _ rfl _ HD2.out (by simp; omega)).mono ?_
  rintro e w3 ⟨n3, rfl, hw3⟩
  have HW3 := Lib.hid hw3; clear hw3
  go_wp2_with (fail)
  go_end0
  refine ⟨rfl, ?_⟩
  have := (HALL.out.trans HW.out).trans HW3.out
  simpa only [List.append_assoc] using this

set_option maxHeartbeats 1000000 in
set_option maxRecDepth 100000 in
theorem pair_any (kind line col num : Int) (name : List UInt8) (op : Int) (kids : List Ex) (hne : 0 < kids.length) (ih0 : WriteOk kids[0]) (ih1 : WriteOk kids[kids.length - 1])
    (cs : Array Value) (B b : Nat) (l : List UInt8) (w : World) (hat : (Ex.mk kind line col num name op kids).At w (· < B) cs) (hd : Desk B b l w) (t : List UInt8) (ht : t = ([40] : List UInt8) ++ kids[0].text ++ [32] ++ betweenL kind op ++ [32] ++ kids[kids.length - 1].text ++ [41]) (hlen : l.length + t.length ≤ 140737488355328) :
    Calls Tryd.prog 26 #[.agg cs, .pointer (some ⟨b, 0, none⟩)] w (WritePost B b (l ++ t) w) := by
  unfold Ex.At at hat
  obtain ⟨_, hop, kv, rfl, _, hk⟩ := hat
  obtain ⟨g, o, cap, rfl, hg, hcap, hmax, hrow⟩ : ∃ g o cap, kv = .slice (some ⟨g, o, none⟩) kids.length cap ∧ g < B ∧ kids.length ≤ cap ∧ kids.length ≤ 4611686018427387904 ∧ Ex.Row w (· < B) g o kids := by
    rcases hk with ⟨h, _⟩ | ⟨_, h⟩
    · subst h; simp at hne
    · exact h
  rw [ht] at hlen
  simp only [List.length_append, List.length_cons, List.length_nil] at hlen
  have HT := Lib.hid ht; have HOP := Lib.hid hop
  generalize hn : kids.length = n at hcap hmax
  have hn0 : 0 < n := by omega
  have HN := Lib.hid hn
  clear hn
  have HD := Lib.hid hd; have HR := Lib.hid hrow; clear hd ht hk hrow hop
  have hBw := HD.out.le
  unfold cells7
  go_enter Tryd.func26, Tryd.ntmps26
  go_wp2_with (fail)
  refine (wr_any B b l [40] _ rfl _ (HD.out.wrote (HD.out.alloc _)) (by simp; omega)).mono ?_
  rintro e w1 ⟨n1, rfl, hw1⟩
  have hbx := box_at (w := w.alloc (.cells (cells7 kind line col num name op (.slice (some ⟨g, o, none⟩) n cap)) 51)) (k := w.heap.size) (alloc_heap _ _) (Nat.ne_of_gt HD.out.ne) hw1.kept
  obtain ⟨c0, c1, c2, c3, c4, c5, c6⟩ := own7 hbx
  have hall := (HD.out.alloc (.cells (cells7 kind line col num name op (.slice (some ⟨g, o, none⟩) n cap)) 51)).trans hw1
  have hrow1 := Ex.Row.later hall.below g hg o _ HR.out
  obtain ⟨kind', line', col', num', name', op', ka', kn', kc', hat', d0, d1, d2, d3, d4, d5, d6⟩ := kid_cells hrow1 0 hne
  simp only [Nat.zero_mul, Nat.add_zero] at d0 d1 d2 d3 d4 d5 d6
  have HA := Lib.hid hat'; have HALL := Lib.hid hall; have HD1 := Lib.hid (HD.out.wrote hall); have HBX := Lib.hid hbx
  clear hat' hall hrow1 hw1 hbx
  go_wp2_with (fail)
  refine (ih0 _ B b _ _ HA.out HD1.out (by simp; omega)).mono ?_
  rintro e w2 ⟨rfl, hw2⟩
  clear c0 c1 c2 c3 c4 c5 c6 d0 d1 d2 d3 d4 d5 d6
  have hbx := box_at HBX.out (Nat.ne_of_gt HD.out.ne) hw2.kept
  obtain ⟨c0, c1, c2, c3, c4, c5, c6⟩ := own7 hbx
  have hall := HALL.out.trans hw2
  have HALL2 := Lib.hid hall; have HBX2 := Lib.hid hbx; have HD2 := Lib.hid (HD1.out.wrote hw2)
  clear hall hbx hw2 HBX
  go_wp2_with (fail)
  refine (between_any kind line col num name op _ HOP.out _ HD2.out.signs).mono ?_
  rintro e w3 ⟨rfl, rfl⟩
  have hd3 := HD2.out.wrote (HD2.out.alloc (.cells (cells7 kind line col num name op (.slice (some ⟨g, o, none⟩) n cap)) 51))
  have HD3 := Lib.hid hd3
  clear hd3
  go_wp2_with (fail)
  refine (wr_any B b _ ([32] ++ betweenL kind op ++ [32]) _ (by simp) _ HD3.out (by simp; omega)).mono ?_
  rintro e w4 ⟨n4, rfl, hw4⟩
  clear c0 c1 c2 c3 c4 c5 c6
  have hal4 := (HD2.out.alloc (.cells (cells7 kind line col num name op (.slice (some ⟨g, o, none⟩) n cap)) 51)).trans hw4
  have hbx := box_at HBX2.out (Nat.ne_of_gt HD.out.ne) hal4.kept
  obtain ⟨c0, c1, c2, c3, c4, c5, c6⟩ := own7 hbx
  have hall := HALL2.out.trans hal4
  have hrow4 := Ex.Row.later hall.below g hg o _ HR.out
  obtain ⟨kind', line', col', num', name', op', ka', kn', kc', hat', d0, d1, d2, d3, d4, d5, d6⟩ := kid_cells hrow4 (kids.length - 1) (by omega)
  rw [HN.out] at d0 d1 d2 d3 d4 d5 d6
  have HA4 := Lib.hid hat'; have HALL4 := Lib.hid hall; have HD4 := Lib.hid (HD2.out.wrote hal4)
  clear hat' hall hrow4 hw4 hbx hal4
  obtain ⟨m, hm⟩ : ∃ m, n = m + 1 := ⟨n - 1, by omega⟩
  subst hm
  simp only [Nat.add_sub_cancel] at d0 d1 d2 d3 d4 d5 d6
  go_wp2_with (fail)
  refine (ih1 _ B b _ _ HA4.out HD4.out (by simp; omega)).mono ?_
  rintro e w5 ⟨rfl, hw5⟩
  have HW5 := Lib.hid hw5; have HD5 := Lib.hid (HD4.out.wrote hw5); clear hw5
  go_wp2_with (fail)
  refine (wr_any B b _ [41] _ rfl _ HD5.out (by simp; omega)).mono ?_
  rintro e w6 ⟨n6, rfl, hw6⟩
  have HW6 := Lib.hid hw6; clear hw6
  go_wp2_with (fail)
  go_end0
  refine ⟨rfl, ?_⟩
  rw [HT.out]
  have := (HALL4.out.trans HW5.out).trans HW6.out
  simpa only [List.append_assoc] using this
end Go.Proofs.YtgnnendcgbijnaaDoor
