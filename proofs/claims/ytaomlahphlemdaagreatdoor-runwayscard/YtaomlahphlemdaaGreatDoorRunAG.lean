/-
  The laws of layer 6: what they ask of inputs and results, leaks held against each other.
  The laws of layer 6: leaks held against each other, the document's example.
-/
import Derived.Test.YtaomlahphlemdaaGreatDoorRunAE
namespace Go.Proofs.YtaomlahphlemdaaGreatDoor
open Go.ChangeShapes Go.WideShapes Go.ChangeAt Go.RowKit
set_option linter.unusedVariables false

theorem Ground.more {w w' : World} (h : Ground w) (hg : w.grownBy w' none) : Ground w' :=
  ⟨⟨Nat.lt_of_lt_of_le h.signs.1 hg.size, fun j x hj => (World.cell?_of_block (hg.block _ h.signs.1 (by simp))).trans (h.signs.2 j x hj)⟩⟩
theorem memCells_get {gs : List Nat} {m : List (List Int)} {i g : Nat} {ws : List Int} (h1 : gs[i]? = some g) (h2 : m[i]? = some ws) : (memCells gs m)[i]? = some (.slice (some ⟨g, 0, none⟩) ws.length ws.length) := by
  unfold memCells
  rw [List.getElem?_zipWith, h1, h2]
/-- Inputs that a composite has laid. -/
theorem insAt_rows {w : World} {g : Nat} {ins : List (List Int)} (bs : List Nat) (hlen : bs.length = ins.length) (hz : ins.length ≤ 1000) (hrow : w.heap[g]? = some (.cells (memCells bs ins).toArray 59 (0, 0))) (hb : ∀ (i b : Nat) (ws : List Int), bs[i]? = some b → ins[i]? = some ws → w.heap[b]? = some (.cells (ws.map iV).toArray 2 (0, 0)) ∧ ws.length ≤ 1000) :
    InsAt w (· < w.heap.size) ins (.slice (some ⟨g, 0, none⟩) ins.length ins.length) := by
  have hml : (1000 : Nat) ≤ maxLen := by decide
  have hgl := (Array.getElem?_eq_some_iff.1 hrow).1
  refine ⟨_, _, rfl, Nat.le_refl _, by omega, fun _ => ⟨g, 0, rfl, hgl, hgl, fun i ws hi => ?_⟩⟩
  have hil : i < bs.length := by rw [hlen]; exact (List.getElem?_eq_some_iff.1 hi).1
  obtain ⟨h1, h2⟩ := hb i bs[i] ws (List.getElem?_eq_getElem hil) hi
  have hbl := (Array.getElem?_eq_some_iff.1 h1).1
  refine ⟨some ⟨bs[i], 0, none⟩, ws.length, ?_, by omega, fun _ => ⟨bs[i], 0, rfl, hbl, hbl, fun k x hk => ?_⟩⟩
  · rw [Lib.cell_of_heap hrow, List.getElem?_toArray, Nat.zero_add]
    exact memCells_get (List.getElem?_eq_getElem hil) hi
  · rw [Lib.cell_of_heap h1, List.getElem?_toArray, Nat.zero_add, List.getElem?_map, hk]
    rfl
def ranOk (x : Option Rn) (f : Rn → Bool) : Bool := match x with | some r => f r | none => false
theorem ran_of {x : Option Rn} {f : Rn → Bool} (h : ranOk x f = true) : ∃ r, x = some r ∧ f r = true := by
  cases x with
  | none => cases h
  | some r => exact ⟨r, rfl, h⟩
/-- Leaks, as a slice. -/
def LksAt (w : World) (l : List Lk) (v : Value) : Prop :=
  ∃ a cap, v = .slice a l.length cap ∧ l.length ≤ cap ∧ (l ≠ [] → ∃ g, a = some ⟨g, 0, none⟩ ∧ g < w.heap.size ∧ ∀ i x, l[i]? = some x → w.cell? ⟨g, i * 3, none⟩ = some (.int .i64 x.kind) ∧ w.cell? ⟨g, i * 3 + 1, none⟩ = some (.int .i64 x.a) ∧ w.cell? ⟨g, i * 3 + 2, none⟩ = some (.int .i64 x.b))
theorem LksAt.keep {w w' : World} {l : List Lk} {v : Value} (h : LksAt w l v) (hg : w.grownBy w' none) : LksAt w' l v := by
  obtain ⟨a, cap, rfl, h1, h2⟩ := h
  refine ⟨a, cap, rfl, h1, fun hne => ?_⟩
  obtain ⟨g, rfl, hl, h3⟩ := h2 hne
  have hk : ∀ o, w'.cell? ⟨g, o, none⟩ = w.cell? ⟨g, o, none⟩ := fun o => World.cell?_of_block (hg.block g hl (by simp))
  refine ⟨g, rfl, Nat.lt_of_lt_of_le hl hg.size, fun i x hi => ?_⟩
  obtain ⟨q1, q2, q3⟩ := h3 i x hi
  exact ⟨(hk _).trans q1, (hk _).trans q2, (hk _).trans q3⟩
theorem lkCells_get : ∀ (l : List Lk) (i : Nat) (x : Lk), l[i]? = some x → ∀ j, j < 3 → (lkCells l)[i * 3 + j]? = (lkV x)[j]?
  | [], i, x, h, _, _ => by simp at h
  | y :: r, 0, x, h, j, hj => by
    obtain rfl : y = x := by simpa using h
    show (lkV y ++ lkCells r)[0 * 3 + j]? = _
    rw [List.getElem?_append_left (by simp [lkV]; omega), Nat.zero_mul, Nat.zero_add]
  | y :: r, i + 1, x, h, j, hj => by
    show (lkV y ++ lkCells r)[(i + 1) * 3 + j]? = _
    rw [List.getElem?_append_right (by simp [lkV]; omega)]
    have h' : r[i]? = some x := by simpa using h
    have := lkCells_get r i x h' j hj
    rw [show (i + 1) * 3 + j - (lkV y).length = i * 3 + j by simp [lkV]; omega]
    exact this
/-- A row of leaks is leaks as a slice. -/
theorem lksAt_cells {w : World} {l : List Lk} {g cap : Nat} {cur : Array Value} {t : TypeId} (h : w.heap[g]? = some (.cells cur t (0, 0))) (hc : cur.toList.take (l.length * 3) = lkCells l) (hn : l.length ≤ cap) : LksAt w l (.slice (some ⟨g, 0, none⟩) l.length cap) := by
  refine ⟨_, _, rfl, hn, fun _ => ⟨g, rfl, (Array.getElem?_eq_some_iff.1 h).1, fun i x hi => ?_⟩⟩
  have hil := (List.getElem?_eq_some_iff.1 hi).1
  have key : ∀ j, j < 3 → w.cell? ⟨g, i * 3 + j, none⟩ = (lkV x)[j]? := by
    intro j hj
    rw [Lib.cell_of_heap h, ← lkCells_get l i x hi j hj, ← hc, List.getElem?_take_of_lt (by omega)]
    simp
  exact ⟨key 0 (by omega), key 1 (by omega), key 2 (by omega)⟩
theorem lksAt_own {w : World} {B : Nat} {l : List Lk} {v : Value} (h : w.ownsRow B 64 3 v l.length (lkCells l)) : LksAt w l v := by
  rcases h.2 with ⟨rfl, h0⟩ | ⟨g, cap, cur, rfl, _, hb, hn, _, _, hc⟩
  · have : l = [] := List.length_eq_zero_iff.1 h0
    subst this
    exact ⟨none, 0, rfl, Nat.le_refl _, fun hne => absurd rfl hne⟩
  · exact lksAt_cells hb hc hn
/-- So many orders, one behind the other, none of which ends the run. -/
def hop : Nat → Rn → Option Rn
  | 0, r => some r
  | k + 1, r => if r.ended then none else if okR r then (match r.does with | some q => hop k q | none => none) else none
def Hop (r q : Rn) : Prop := ∃ m, hop m r = some q
theorem hop_goes {n : Nat} {q z : Rn} (hq : goes n q = some z) : ∀ (k : Nat) (r : Rn), hop k r = some q → goes (k + n) r = some z
  | 0, r, h => by
    rw [hop] at h
    cases h
    rw [Nat.zero_add]; exact hq
  | k + 1, r, h => by
    rw [hop] at h
    rw [show k + 1 + n = (k + n) + 1 by omega, goes]
    split at h
    · cases h
    · rename_i hne
      rw [if_neg hne]
      split at h
      · rename_i hok
        rw [if_pos hok]
        cases hd : r.does with
        | none => rw [hd] at h; cases h
        | some x => rw [hd] at h; exact hop_goes hq k x h
      · cases h
theorem hop_more {n : Nat} {q z : Rn} (hq : hop n q = some z) : ∀ (k : Nat) (r : Rn), hop k r = some q → hop (k + n) r = some z
  | 0, r, h => by
    rw [hop] at h
    cases h
    rw [Nat.zero_add]; exact hq
  | k + 1, r, h => by
    rw [hop] at h
    rw [show k + 1 + n = (k + n) + 1 by omega, hop]
    split at h
    · cases h
    · rename_i hne
      rw [if_neg hne]
      split at h
      · rename_i hok
        rw [if_pos hok]
        cases hd : r.does with
        | none => rw [hd] at h; cases h
        | some x => rw [hd] at h; exact hop_more hq k x h
      · cases h
theorem Hop.refl (r : Rn) : Hop r r := ⟨0, rfl⟩
theorem Hop.trans {a b c : Rn} (h : Hop a b) (i : Hop b c) : Hop a c := by
  obtain ⟨m, hm⟩ := h
  obtain ⟨n, hn⟩ := i
  exact ⟨m + n, hop_more hn m a hm⟩
theorem Hop.one {a b : Rn} (hne : a.ended = false) (hok : okR a = true) (hd : a.does = some b) : Hop a b := ⟨1, by
  rw [hop, hne, if_neg (by simp), if_pos hok, hd]; rfl⟩
theorem Hop.goes {a b z : Rn} {n : Nat} (h : Hop a b) (hz : goes n b = some z) : ∃ k, goes k a = some z := by
  obtain ⟨m, hm⟩ := h
  exact ⟨m + n, hop_goes hz m a hm⟩

def headR : List UInt8 := [115, 101, 99, 114, 101, 116, 32, 115, 59, 32, 102, 117, 110, 99, 32, 109, 97, 105, 110, 40, 41, 32, 123, 32, 114, 101, 116, 117, 114, 110, 32, 115, 32, 43, 32, 49, 59, 32, 125]
theorem headR_fit : prFit (parseL headR).1 = true := by kernel_rfl
theorem headR_good : prGood (parseL headR).1 = true := by kernel_rfl
theorem headR_err : (parseL headR).2 = (0, 0, 0) := by kernel_rfl
theorem headR_ck : (ckProg (parseL headR).1).err = 0 := by kernel_rfl
theorem headR_n : (parseL headR).1.globals.length = 1 := by kernel_rfl
theorem headR_run : ranOk (runL (parseL headR).1 [[4]] 100 20) (fun r => decide (r.fault = 0) && decide (r.val = 5) && decide (r.leaks = []) && decide (r.deep = 1)) = true := by kernel_rfl
end Go.Proofs.YtaomlahphlemdaaGreatDoor

namespace Go.Proofs.YtaomlahphlemdaaGreatDoor
open Go.ChangeShapes Go.WideShapes Go.ChangeAt Go.RowKit
set_option linter.unusedVariables false

set_option maxHeartbeats 4000000 in
set_option maxRecDepth 100000 in
theorem head6_any (w : World) (hg : Ground w) : Calls Tryz.prog 10 #[] w fun e w' => e = .returned (.bool true) ∧ w.grownBy w' none := by
  have HG := Lib.hid hg
  clear hg
  go_enter Tryz.func10, Tryz.ntmps10
  go_wp2_with (fail)
  refine (Program_any ⟨headR.toArray⟩ (by decide) w HG.out.signs).mono ?_
  intro e w1 hp
  change ParsePost headR w e w1 at hp
  unfold ParsePost at hp
  rw [headR_err] at hp
  obtain ⟨cs, rfl, hat, hgr⟩ := hp
  obtain ⟨a1, a2, a3, b1, b2, b3, rfl⟩ := hat.cells
  have HAT := Lib.hid hat; have HG1 := Lib.hid hgr
  clear hat hgr
  go_wp2_with (fail)
  have hg2 : w1.grownBy ((((w1.alloc (.cells #[.slice a1 a2 a3, .slice b1 b2 b3] 25)).alloc (.cells #[.int .i64 0, .int .i64 0, .int .i64 0] 67)).alloc (.cells #[.int .i64 4] 2)).alloc (.cells #[.slice (some ⟨w1.heap.size + 1 + 1, 0, none⟩) 1 1] 59)) none := grown_trans (grown_trans (grown_trans (grown_alloc _ _) (grown_alloc _ _)) (grown_alloc _ _)) (grown_alloc _ _)
  have hb2 : ((((w1.alloc (.cells #[.slice a1 a2 a3, .slice b1 b2 b3] 25)).alloc (.cells #[.int .i64 0, .int .i64 0, .int .i64 0] 67)).alloc (.cells #[.int .i64 4] 2)).alloc (.cells #[.slice (some ⟨w1.heap.size + 1 + 1, 0, none⟩) 1 1] 59)).heap[w1.heap.size + 1]? = some (.cells #[.int .i64 0, .int .i64 0, .int .i64 0] 67 (0, 0)) := alloc_past _ _ _ _ (by simp) (alloc_past _ _ _ _ (by simp) (alloc_at _ _ _ (by simp)))
  have hb3 : ((((w1.alloc (.cells #[.slice a1 a2 a3, .slice b1 b2 b3] 25)).alloc (.cells #[.int .i64 0, .int .i64 0, .int .i64 0] 67)).alloc (.cells #[.int .i64 4] 2)).alloc (.cells #[.slice (some ⟨w1.heap.size + 1 + 1, 0, none⟩) 1 1] 59)).heap[w1.heap.size + 1 + 1]? = some (.cells #[.int .i64 4] 2 (0, 0)) := alloc_past _ _ _ _ (by simp) (alloc_at _ _ _ (by simp))
  have hb4 : ((((w1.alloc (.cells #[.slice a1 a2 a3, .slice b1 b2 b3] 25)).alloc (.cells #[.int .i64 0, .int .i64 0, .int .i64 0] 67)).alloc (.cells #[.int .i64 4] 2)).alloc (.cells #[.slice (some ⟨w1.heap.size + 1 + 1, 0, none⟩) 1 1] 59)).heap[w1.heap.size + 1 + 1 + 1]? = some (.cells #[.slice (some ⟨w1.heap.size + 1 + 1, 0, none⟩) 1 1] 59 (0, 0)) := alloc_at _ _ _ (by simp)
  generalize ((((w1.alloc (.cells #[.slice a1 a2 a3, .slice b1 b2 b3] 25)).alloc (.cells #[.int .i64 0, .int .i64 0, .int .i64 0] 67)).alloc (.cells #[.int .i64 4] 2)).alloc (.cells #[.slice (some ⟨w1.heap.size + 1 + 1, 0, none⟩) 1 1] 59)) = W2 at *
  have HG2 := Lib.hid (grown_trans HG1.out hg2); have HB2 := Lib.hid hb2
  have HIN := Lib.hid (insAt_rows (ins := [[4]]) [w1.heap.size + 1 + 1] rfl (by decide) hb4 (fun i b ws h1 h2 => by
    cases i with
    | zero =>
      obtain rfl : w1.heap.size + 1 + 1 = b := by simpa using h1
      obtain rfl : [4] = ws := by simpa using h2
      exact ⟨hb3, by decide⟩
    | succ i => simp at h1))
  have HAT2 := Lib.hid (HAT.out.keep (S' := (· < W2.heap.size)) hg2.size (fun q _ hq => Nat.lt_of_lt_of_le hq hg2.size) (fun q _ hq o => World.cell?_of_block (hg2.block q hq (by simp))))
  clear hg2 hb2 hb3 hb4
  obtain ⟨rz, hrz, hok⟩ := ran_of headR_run
  simp only [Bool.and_eq_true, decide_eq_true_eq] at hok
  obtain ⟨⟨⟨o1, o2⟩, o3⟩, o4⟩ := hok
  refine (run_good headR_fit headR_good headR_ck (by rw [headR_n]; decide) HAT2.out [[4]] _ HIN.out 100 20 rz hrz).mono ?_
  rintro e w3 ⟨hg3, hr3⟩
  rcases hr3 with ⟨h, _⟩ | ⟨_, rs, rfl, hrs⟩
  · exact absurd o1 h
  obtain ⟨⟨lv, mg, gs, rfl, hlv, hm⟩⟩ := hrs
  obtain ⟨la, lcap, rfl, _⟩ := own_slice hlv
  rw [o2, o3, o4]
  have HG3 := Lib.hid (grown_trans HG2.out hg3)
  have hb5 := (hg3.block _ (Array.getElem?_eq_some_iff.1 HB2.out).1 (by simp)).trans HB2.out
  have HB5 := Lib.hid hb5
  clear hg3 hb5 hm hlv
  go_upto_region 3 with (fail)
  have hg4 : w3.grownBy (w3.alloc (.cells #[.int .i64 5, .int .i64 rz.trap, .slice la 0 lcap, .int .i64 rz.steps, .int .i64 1, .slice (some ⟨mg, 0, none⟩) gs.length gs.length] 33)) none := grown_alloc _ _
  have hb6 : (w3.alloc (.cells #[.int .i64 5, .int .i64 rz.trap, .slice la 0 lcap, .int .i64 rz.steps, .int .i64 1, .slice (some ⟨mg, 0, none⟩) gs.length gs.length] 33)).heap[w3.heap.size]? = some (.cells #[.int .i64 5, .int .i64 rz.trap, .slice la 0 lcap, .int .i64 rz.steps, .int .i64 1, .slice (some ⟨mg, 0, none⟩) gs.length gs.length] 33 (0, 0)) := alloc_at _ _ _ rfl
  have hb7 := (hg4.block _ (Array.getElem?_eq_some_iff.1 HB5.out).1 (by simp)).trans HB5.out
  generalize (w3.alloc (.cells #[.int .i64 5, .int .i64 rz.trap, .slice la 0 lcap, .int .i64 rz.steps, .int .i64 1, .slice (some ⟨mg, 0, none⟩) gs.length gs.length] 33)) = W4 at *
  have HG4 := Lib.hid (grown_trans HG3.out hg4)
  clear hg4
  obtain ⟨⟨r0, r1, r2, r3, r4, r5⟩, _⟩ := six hb6
  obtain ⟨⟨z0, z1, z2⟩, _, _, _⟩ := three hb7
  clear hb6 hb7
  go_wp2_with (fail)
  go_ret
  exact ⟨rfl, HG4.out⟩
set_option maxHeartbeats 4000000 in
set_option maxRecDepth 100000 in
theorem same_yes {w : World} {l : List Lk} {v1 v2 : Value} (h1 : LksAt w l v1) (h2 : LksAt w l v2) (hn : l.length ≤ 1099511627776) : Calls Tryz.prog 14 #[v1, v2] w fun e w' => e = .returned (.bool true) ∧ w.grownBy w' none := by
  obtain ⟨a, ac, rfl, ha1, ha2⟩ := h1
  obtain ⟨b, bc, rfl, hb1, hb2⟩ := h2
  have HA := Lib.hid ha2; have HB := Lib.hid hb2
  clear ha2 hb2
  go_enter Tryz.func14, Tryz.ntmps14
  go_wp2_with (fail)
  go_loopw [13] (fun i wr => ∃ j : Nat, j ≤ l.length ∧ i = .int .i64 j ∧ w.grownBy wr none) (fun i _ => l.length - (intOf i).toNat)
  case atStart => exact ⟨0, Nat.zero_le _, rfl, grown_refl _⟩
  case round =>
    obtain ⟨j, hj, rfl, hgr⟩ := hrel
    have HGR := Lib.hid hgr
    clear hgr
    by_cases hjl : j < l.length
    · have hne : l ≠ [] := by intro h; subst h; simp at hjl
      obtain ⟨g1, rfl, hg1, hc1⟩ := HA.out hne
      obtain ⟨g2, rfl, hg2, hc2⟩ := HB.out hne
      obtain ⟨x0, x1, x2⟩ := hc1 j l[j] (List.getElem?_eq_getElem hjl)
      obtain ⟨y0, y1, y2⟩ := hc2 j l[j] (List.getElem?_eq_getElem hjl)
      have k1 := fun o => World.cell?_of_block (a := ⟨g1, o, none⟩) (HGR.out.block g1 hg1 (by simp))
      have k2 := fun o => World.cell?_of_block (a := ⟨g2, o, none⟩) (HGR.out.block g2 hg2 (by simp))
      rw [← k1] at x0 x1 x2
      rw [← k2] at y0 y1 y2
      clear hc1 hc2 k1 k2
      generalize l[j] = lk at *
      obtain ⟨lk1, lk2, lk3⟩ := lk
      dsimp only at x0 x1 x2 y0 y1 y2
      go_wp2_with (fail)
      go_region
      all_goals
        go_wp2_with (fail)
        go_roundw
        case rel => exact ⟨j + 1, by omega, by simp, by repeat (first | exact HGR.out | apply grown_drew)⟩
        case measure => simp [intOf]; omega
    · obtain rfl : j = l.length := by omega
      clear hjl
      go_wp2_with (fail)
      go_ret
      exact ⟨rfl, HGR.out⟩
end Go.Proofs.YtaomlahphlemdaaGreatDoor
