/-
  ParseChains: for every number and truth the law returns true, and its arguments read as before. The package-level tables are as the program's text lays them (the card ties them).
-/
import Derived.Test.YtgnnendcgbijnaaDoorTie
import Derived.Test.YtgnnendcgbijnaaDoorCards
import Derived.Test.YtgnnendcgbijnaaDoorChain
import Derived.ProofKit
import Derived.LaidMore
import Derived.OpenShut
import Derived.ShutString
import Derived.SliceStrings
import Derived.Stop.Joined
import Derived.SevenTiedAt
namespace Go.Proofs.YtgnnendcgbijnaaDoor.parseChains
open Go.ChangeShapes Go.WideShapes Go.ChangeAt Go.WideMaps Go.WideElems Go.RowKit
open Go.ChangeMaps (open_string shut_string)
set_option linter.unusedVariables false

theorem cat_lists (x y : List UInt8) : (⟨x.toArray⟩ : ByteArray) ++ ⟨y.toArray⟩ = ⟨(x ++ y).toArray⟩ := by
  apply ByteArray.ext
  rw [ByteArray.data_append]
  apply Array.toList_inj.1
  simp
theorem size_list (x : List UInt8) : (⟨x.toArray⟩ : ByteArray).size = x.length := by simp [ByteArray.size]
theorem body_row {w : World} {S : Nat → Prop} {sm : Sm} {v : Value} (h : BodyAt w S [sm] v) : ∃ g o cap cs, v = .slice (some ⟨g, o, none⟩) 1 cap ∧ g < w.heap.size ∧ sm.At w S cs ∧ ∀ j, j < 7 → w.cell? ⟨g, o + j, none⟩ = cs[j]? := by
  rcases h with ⟨h, _⟩ | ⟨_, g, o, cap, rfl, _, _, _, hr⟩
  · cases h
  · have hlt := hr.lt
    unfold Sm.Row at hr
    obtain ⟨⟨cs, hat, hc⟩, _⟩ := hr
    exact ⟨g, o, cap, cs, rfl, hlt, hat, hc⟩
theorem kids_lens {w : World} {S : Nat → Prop} {es : List Ex} {v : Value} (h : KidsAt w S es v) : ∃ a c, v = .slice a es.length c := by
  rcases h with ⟨rfl, a, cap, rfl⟩ | ⟨_, g, o, cap, rfl, _⟩ <;> exact ⟨_, _, rfl⟩
theorem body_lens {w : World} {S : Nat → Prop} {es : List Sm} {v : Value} (h : BodyAt w S es v) : ∃ a c, v = .slice a es.length c := by
  rcases h with ⟨rfl, a, cap, rfl⟩ | ⟨_, g, o, cap, rfl, _⟩ <;> exact ⟨_, _, rfl⟩
theorem sm_cells {w : World} {S : Nat → Prop} {sm : Sm} {cs : Array Value} (h : sm.At w S cs) : ∃ d l c nm ev tv lv, cs = cellsS d l c nm ev tv lv ∧ sm.does = d := by
  cases sm with
  | mk d l c nm es thn els =>
    unfold Sm.At at h
    obtain ⟨ev, tv, lv, rfl, _⟩ := h
    exact ⟨_, _, _, _, _, _, _, rfl, rfl⟩
theorem sm_slices {w : World} {S : Nat → Prop} {sm : Sm} {cs : Array Value} (h : sm.At w S cs) : ∃ d l c nm a1 n1 c1 a2 n2 c2 a3 n3 c3, cs = #[.int .i64 d, .int .i64 l, .int .i64 c, .string nm, .slice a1 n1 c1, .slice a2 n2 c2, .slice a3 n3 c3] := by
  cases sm with
  | mk d l c nm es thn els =>
    unfold Sm.At at h
    obtain ⟨ev, tv, lv, rfl, k1, k2, k3⟩ := h
    obtain ⟨a1, c1, rfl⟩ := kids_lens k1
    obtain ⟨a2, c2, rfl⟩ := body_lens k2
    obtain ⟨a3, c3, rfl⟩ := body_lens k3
    exact ⟨_, _, _, _, _, _, _, _, _, _, _, _, _, rfl⟩
theorem chain_more {w : World} {S : Nat → Prop} {n : Nat} {last : Bool} {sm : Sm} {cs : Array Value} (h : sm.At w S cs) (hc : ChainOk (n + 1) last sm) : ∃ l c nm ea ec ta tc g o cap sm' cs', cs = #[.int .i64 4, .int .i64 l, .int .i64 c, .string nm, .slice ea 1 ec, .slice ta 1 tc, .slice (some ⟨g, o, none⟩) 1 cap] ∧ g < w.heap.size ∧ ChainOk n last sm' ∧ sm'.At w S cs' ∧ ∀ j, j < 7 → w.cell? ⟨g, o + j, none⟩ = cs'[j]? := by
  cases sm with
  | mk d l c nm es thn els =>
    obtain ⟨rfl, h1, h2, sm', rfl, hc'⟩ := hc
    unfold Sm.At at h
    obtain ⟨ev, tv, lv, rfl, k1, k2, k3⟩ := h
    obtain ⟨ea, ec, rfl⟩ := kids_lens k1
    obtain ⟨ta, tc, rfl⟩ := body_lens k2
    obtain ⟨g, o, cap, cs', rfl, hlt, hat, hcells⟩ := body_row k3
    exact ⟨l, c, ⟨nm.toArray⟩, ea, ec, ta, tc, g, o, cap, sm', cs', by rw [h1, h2]; rfl, hlt, hc', hat, hcells⟩
theorem chain_end {w : World} {S : Nat → Prop} {last : Bool} {sm : Sm} {cs : Array Value} (h : sm.At w S cs) (hc : ChainOk 0 last sm) : ∃ l c nm ea ec ta tc lv, cs = #[.int .i64 4, .int .i64 l, .int .i64 c, .string nm, .slice ea 1 ec, .slice ta 1 tc, lv] ∧
    ((last = true ∧ ∃ g o cap, lv = .slice (some ⟨g, o, none⟩) 1 cap ∧ g < w.heap.size ∧ w.cell? ⟨g, o, none⟩ = some (.int .i64 2)) ∨ (last = false ∧ ∃ a cap, lv = .slice a 0 cap)) := by
  cases sm with
  | mk d l c nm es thn els =>
    obtain ⟨rfl, h1, h2, h3⟩ := hc
    unfold Sm.At at h
    obtain ⟨ev, tv, lv, rfl, k1, k2, k3⟩ := h
    obtain ⟨ea, ec, rfl⟩ := kids_lens k1
    obtain ⟨ta, tc, rfl⟩ := body_lens k2
    refine ⟨l, c, ⟨nm.toArray⟩, ea, ec, ta, tc, lv, by rw [h1, h2]; rfl, ?_⟩
    rcases h3 with ⟨hl, sm', rfl, hd⟩ | ⟨hl, rfl⟩
    · obtain ⟨g, o, cap, cs', rfl, hlt, hat, hcells⟩ := body_row k3
      obtain ⟨d', l', c', nm', ev', tv', lv', rfl, hd'⟩ := sm_cells hat
      have := hcells 0 (by decide)
      refine .inl ⟨hl, g, o, cap, rfl, hlt, ?_⟩
      rw [Nat.add_zero] at this
      rw [this, ← hd.symm.trans hd']
      rfl
    · obtain ⟨a, cap, rfl⟩ := body_lens k3
      exact .inr ⟨hl, a, cap, rfl⟩
/-- The copy in block B is a chain that is so many choices further. -/
structure ChRel (w w4 wr : World) (B n j : Nat) (last : Bool) (S : Nat → Prop) : Prop where
  chain : ∃ sm cs, ChainOk (n - j) last sm ∧ sm.At w4 S cs ∧ ∀ q, q < 7 → wr.cell? ⟨B, q, none⟩ = cs[q]?
  old : ∀ q o, q < w4.heap.size → wr.cell? ⟨q, o, none⟩ = w4.cell? ⟨q, o, none⟩
  free : ∀ q, wr.frozen? ⟨B, q, none⟩ = false
  low : w4.heap.size ≤ B
  lt : B < wr.heap.size
  grown : w.grownBy wr none
theorem cell_put {w : World} {B i : Nat} {v x : Value} (h : w.cell? ⟨B, i, none⟩ = some x) (q : Nat) : (w.setCell ⟨B, i, none⟩ v).cell? ⟨B, q, none⟩ = if q = i then some v else w.cell? ⟨B, q, none⟩ := by
  by_cases e : q = i
  · subst e; rw [if_pos rfl, World.cell?_setCell_same _ _ _ h]
  · rw [if_neg e, World.cell?_setCell_other _ _ _ _ (by first | (simp; done) | (simp; omega))]
def put7 (w : World) (B : Nat) (v0 v1 v2 v3 v4 v5 v6 : Value) : World :=
  ((((((w.setCell ⟨B, 0, none⟩ v0).setCell ⟨B, 1, none⟩ v1).setCell ⟨B, 2, none⟩ v2).setCell ⟨B, 3, none⟩ v3).setCell ⟨B, 4, none⟩ v4).setCell ⟨B, 5, none⟩ v5).setCell ⟨B, 6, none⟩ v6
theorem put7_cells {w : World} {B : Nat} {cs : Array Value} (hs : cs.size = 7) (h : ∀ q, q < 7 → w.cell? ⟨B, q, none⟩ = cs[q]?) (v0 v1 v2 v3 v4 v5 v6 : Value) : ∀ q, q < 7 → (put7 w B v0 v1 v2 v3 v4 v5 v6).cell? ⟨B, q, none⟩ = #[v0, v1, v2, v3, v4, v5, v6][q]? := by
  have hx : ∀ q, q < 7 → ∃ x, w.cell? ⟨B, q, none⟩ = some x := fun q hq => ⟨cs[q], by rw [h q hq]; simp⟩
  obtain ⟨x0, h0⟩ := hx 0 (by decide); obtain ⟨x1, h1⟩ := hx 1 (by decide); obtain ⟨x2, h2⟩ := hx 2 (by decide); obtain ⟨x3, h3⟩ := hx 3 (by decide)
  obtain ⟨x4, h4⟩ := hx 4 (by decide); obtain ⟨x5, h5⟩ := hx 5 (by decide); obtain ⟨x6, h6⟩ := hx 6 (by decide)
  intro q hq
  unfold put7
  have a1 := fun q => cell_put (v := v0) h0 q
  have a2 := fun q => cell_put (v := v1) ((a1 1).trans ((if_neg (by decide)).trans h1)) q
  have a3 := fun q => cell_put (v := v2) ((a2 2).trans ((if_neg (by decide)).trans ((a1 2).trans ((if_neg (by decide)).trans h2)))) q
  have a4 := fun q => cell_put (v := v3) ((a3 3).trans ((if_neg (by decide)).trans ((a2 3).trans ((if_neg (by decide)).trans ((a1 3).trans ((if_neg (by decide)).trans h3)))))) q
  have a5 := fun q => cell_put (v := v4) ((a4 4).trans ((if_neg (by decide)).trans ((a3 4).trans ((if_neg (by decide)).trans ((a2 4).trans ((if_neg (by decide)).trans ((a1 4).trans ((if_neg (by decide)).trans h4)))))))) q
  have a6 := fun q => cell_put (v := v5) ((a5 5).trans ((if_neg (by decide)).trans ((a4 5).trans ((if_neg (by decide)).trans ((a3 5).trans ((if_neg (by decide)).trans ((a2 5).trans ((if_neg (by decide)).trans ((a1 5).trans ((if_neg (by decide)).trans h5)))))))))) q
  have a7 := fun q => cell_put (v := v6) ((a6 6).trans ((if_neg (by decide)).trans ((a5 6).trans ((if_neg (by decide)).trans ((a4 6).trans ((if_neg (by decide)).trans ((a3 6).trans ((if_neg (by decide)).trans ((a2 6).trans ((if_neg (by decide)).trans ((a1 6).trans ((if_neg (by decide)).trans h6)))))))))))) q
  rw [a7, a6, a5, a4, a3, a2, a1]
  have : q = 0 ∨ q = 1 ∨ q = 2 ∨ q = 3 ∨ q = 4 ∨ q = 5 ∨ q = 6 := by omega
  rcases this with rfl | rfl | rfl | rfl | rfl | rfl | rfl <;> simp
theorem ChRel.step {w w4 wr : World} {B n j : Nat} {last : Bool} {S : Nat → Prop} (h : ChRel w w4 wr B n j last S) (hw : w.heap.size ≤ w4.heap.size) {sm : Sm} {v0 v1 v2 v3 v4 v5 v6 : Value} (hc : ChainOk (n - (j + 1)) last sm) (hat : sm.At w4 S #[v0, v1, v2, v3, v4, v5, v6]) : ChRel w w4 (put7 wr B v0 v1 v2 v3 v4 v5 v6) B n (j + 1) last S := by
  obtain ⟨⟨sm0, cs0, _, hat0, hcells⟩, h2, h3, h4, h5, h6⟩ := h
  have hs : cs0.size = 7 := by obtain ⟨_, _, _, _, _, _, _, rfl, _⟩ := sm_cells hat0; rfl
  refine ⟨⟨sm, _, hc, hat, put7_cells hs hcells _ _ _ _ _ _ _⟩, fun q o hq => ?_, fun q => ?_, h4, ?_, ?_⟩
  · rw [← h2 q o hq]
    unfold put7
    rw [World.cell?_of_block (Below.heap_setCell _ _ _ _ (by show q ≠ B; omega)), World.cell?_of_block (Below.heap_setCell _ _ _ _ (by show q ≠ B; omega)), World.cell?_of_block (Below.heap_setCell _ _ _ _ (by show q ≠ B; omega)), World.cell?_of_block (Below.heap_setCell _ _ _ _ (by show q ≠ B; omega)), World.cell?_of_block (Below.heap_setCell _ _ _ _ (by show q ≠ B; omega)), World.cell?_of_block (Below.heap_setCell _ _ _ _ (by show q ≠ B; omega)), World.cell?_of_block (Below.heap_setCell _ _ _ _ (by show q ≠ B; omega))]
  · unfold put7; simp only [World.frozen?_setCell]; exact h3 q
  · unfold put7; simpa using h5
  · unfold put7
    exact grown_put (grown_put (grown_put (grown_put (grown_put (grown_put (grown_put h6 _ _ (by omega)) _ _ (by omega)) _ _ (by omega)) _ _ (by omega)) _ _ (by omega)) _ _ (by omega)) _ _ (by omega)

set_option maxHeartbeats 4000000 in
set_option maxRecDepth 100000 in
theorem chains_false (a : Int) (n : Nat) (hn : n < 64) (hna : bits .and .i64 a 63 = (n : Int)) (w : World) (hg : Ground w) :
    Calls Tryd.prog 5 #[.int .i64 a, .bool false] w fun e w' => e = .returned (.bool true) ∧ Below w.heap.size w w' := by
  have HG := Lib.hid hg
  clear hg
  go_enter Tryd.func5, Tryd.ntmps5
  go_wp2_with (fail)
  refine (head_any _ HG.out).mono ?_
  rintro e w1 ⟨rfl, hg1⟩
  have HG1 := Lib.hid hg1
  clear hg1
  go_upto_region 6 with (fail)
  clear hna
  go_loop [5, 6] (fun x i => ∃ k : Nat, k ≤ n ∧ i = .int .i64 ((k + 1 : Nat) : Int) ∧ x = .string ⟨(chFirst ++ rep k chElse).toArray⟩) (fun _ i => n + 1 - (intOf i).toNat)
  case atStart => exact ⟨0, Nat.zero_le _, rfl, rfl⟩
  case round =>
    obtain ⟨k, hk, rfl, rfl⟩ := hrel
    have hx1 : (chFirst ++ rep k chElse).length ≤ 31 + 26 * k := by rw [List.length_append, rep_length, Nat.mul_comm]; exact Nat.le_refl _
    rw [← size_list] at hx1
    by_cases hlt2 : k < n
    · have hlt3 : k + 1 ≤ n := by omega
      have HX := Lib.hid (show (⟨(chFirst ++ rep k chElse).toArray⟩ : ByteArray) ++ ⟨#[32, 101, 108, 115, 101, 32, 105, 102, 32, 97, 32, 61, 61, 32, 49, 32, 123, 32, 120, 32, 61, 32, 49, 59, 32, 125]⟩ = ⟨(chFirst ++ rep (k + 1) chElse).toArray⟩ by
        rw [rep_snoc, ← List.append_assoc, ← cat_lists]; rfl)
      generalize (⟨(chFirst ++ rep k chElse).toArray⟩ : ByteArray) = X at hx1 HX
      have hXs : X.size ≤ 2000 := by omega
      clear hx1
      go_wp2_with (fail)
      go_round
      case rel => exact ⟨k + 1, by omega, by go_num, by rw [HX.out]⟩
      case measure => simp [intOf]; omega
    · obtain rfl : n = k := by omega
      clear hlt2
      have HT := Lib.hid (show ((⟨(chFirst ++ rep n chElse).toArray⟩ : ByteArray) ++ ⟨#[32, 125]⟩).data.toList = chainText n false by
        simp [ByteArray.data_append, chainText, fnEnd])
      generalize (⟨(chFirst ++ rep n chElse).toArray⟩ : ByteArray) = X at hx1 HT
      have hXs : X.size ≤ 2000 := by omega
      clear hx1
      go_wp2_with (fail)
      refine (Program_any _ (by rw [ByteArray.size_append]; have q2 : (⟨#[32, 125]⟩ : ByteArray).size = 2 := rfl; omega) _ (HG.out.more HG1.out).signs).mono ?_
      intro e w4 hp4
      rw [HT.out] at hp4
      obtain ⟨cs, rfl, hat4, hgr4⟩ := hp4
      have HX4 := Lib.hid (grown_trans HG1.out hgr4)
      clear hgr4
      obtain ⟨fn, hr, sm, r3, r4⟩ := chain_parse n false hn
      rw [hr] at hat4
      rw [hr]
      obtain ⟨gv4, fv4, rfl, hgl4, hfn4⟩ := hat4
      obtain ⟨ga4, gk4, gc4, rfl⟩ := hgl4.slice
      obtain ⟨g1, o1, cap1, pv, bv, rfl, hl1, hpar, hbody, c0, c1, c2⟩ := fns_one hfn4
      rw [r3] at hbody
      obtain ⟨g2, o2, cap2, cs, rfl, hl2, hat, hcells⟩ := body_row hbody
      obtain ⟨d', l', c', nm', a1, n1, k1, a2, n2, k2, a3, n3, k3, rfl⟩ := sm_slices hat
      have b0 : w4.cell? ⟨g2, o2, none⟩ = some (.int .i64 d') := hcells 0 (by decide)
      have b1 : w4.cell? ⟨g2, o2 + 1, none⟩ = some (.int .i64 l') := hcells 1 (by decide)
      have b2 : w4.cell? ⟨g2, o2 + 2, none⟩ = some (.int .i64 c') := hcells 2 (by decide)
      have b3 : w4.cell? ⟨g2, o2 + 3, none⟩ = some (.string nm') := hcells 3 (by decide)
      have b4 : w4.cell? ⟨g2, o2 + 4, none⟩ = some (.slice a1 n1 k1) := hcells 4 (by decide)
      have b5 : w4.cell? ⟨g2, o2 + 5, none⟩ = some (.slice a2 n2 k2) := hcells 5 (by decide)
      have b6 : w4.cell? ⟨g2, o2 + 6, none⟩ = some (.slice a3 n3 k3) := hcells 6 (by decide)
      have HAT := Lib.hid hat; have HOK := Lib.hid r4
      clear hgl4 hfn4 hpar hbody hat hcells hr r3 r4 c0 c1
      go_upto_region 16 with (fail)
      have hrel0 : ChRel w w4 (((w4.alloc (.cells #[.slice ga4 gk4 gc4, .slice (some ⟨g1, o1, none⟩) 1 cap1] 30)).alloc (.cells #[.int .i64 0, .int .i64 0, .int .i64 0] 34)).alloc (.cells #[.int .i64 d', .int .i64 l', .int .i64 c', .string nm', .slice a1 n1 k1, .slice a2 n2 k2, .slice a3 n3 k3] 45)) (w4.heap.size + 1 + 1) n 0 false (w1.heap.size ≤ ·) := by
        refine ⟨⟨sm, _, HOK.out, HAT.out, fun q hq => ?_⟩, fun q o hq => ?_, fun q => ?_, by omega, by simp, grown_trans (grown_trans (grown_trans HX4.out (grown_alloc _ _)) (grown_alloc _ _)) (grown_alloc _ _)⟩
        · exact Lib.cell_of_heap (alloc_at _ _ _ (by simp)) q
        · exact fns_keep (grown_trans (grown_trans (grown_alloc _ _) (grown_alloc _ _)) (grown_alloc _ _)) q hq o
        · exact Lib.frozen_of_heap (alloc_at _ _ _ (by simp)) q
      have HREL := Lib.hid hrel0
      have hw4 := HX4.out.size
      clear b0 b1 b2 b3 b4 b5 b6 hrel0 HAT HOK
      go_loopw [10] (fun i wr => ∃ j : Nat, j ≤ n ∧ i = .int .i64 j ∧ ChRel w w4 wr (w4.heap.size + 1 + 1) n j false (w1.heap.size ≤ ·)) (fun i _ => n + 1 - (intOf i).toNat)
      case atStart => exact ⟨0, Nat.zero_le _, rfl, HREL.out⟩
      case round =>
        obtain ⟨j, hj, rfl, hrl⟩ := hrel
        obtain ⟨sm9, cs9, hok9, hat9, hcl9⟩ := hrl.chain
        have hB := hrl.lt
        have f0 := hrl.free 0
        have f1 := hrl.free 1
        have f2 := hrl.free 2
        have f3 := hrl.free 3
        have f4 := hrl.free 4
        have f5 := hrl.free 5
        have f6 := hrl.free 6
        by_cases hlt2 : j < n
        · rw [show n - j = (n - (j + 1)) + 1 by omega] at hok9
          obtain ⟨l9, c9, nm9, ea, ec, ta, tc, g, o, cap, sm', cs', rfl, hlt9, hok', hat', hcl'⟩ := chain_more hat9 hok9
          obtain ⟨d', l', c', nm', a1, n1, k1, a2, n2, k2, a3, n3, k3, rfl⟩ := sm_slices hat'
          have b0 : wr.cell? ⟨w4.heap.size + 1 + 1, 0, none⟩ = some (.int .i64 4) := hcl9 0 (by decide)
          have b1 : wr.cell? ⟨w4.heap.size + 1 + 1, 1, none⟩ = some (.int .i64 l9) := hcl9 1 (by decide)
          have b2 : wr.cell? ⟨w4.heap.size + 1 + 1, 2, none⟩ = some (.int .i64 c9) := hcl9 2 (by decide)
          have b3 : wr.cell? ⟨w4.heap.size + 1 + 1, 3, none⟩ = some (.string nm9) := hcl9 3 (by decide)
          have b4 : wr.cell? ⟨w4.heap.size + 1 + 1, 4, none⟩ = some (.slice ea 1 ec) := hcl9 4 (by decide)
          have b5 : wr.cell? ⟨w4.heap.size + 1 + 1, 5, none⟩ = some (.slice ta 1 tc) := hcl9 5 (by decide)
          have b6 : wr.cell? ⟨w4.heap.size + 1 + 1, 6, none⟩ = some (.slice (some ⟨g, o, none⟩) 1 cap) := hcl9 6 (by decide)
          have s0 : wr.cell? ⟨g, o, none⟩ = some (.int .i64 d') := (hrl.old g _ hlt9).trans (hcl' 0 (by decide))
          have s1 : wr.cell? ⟨g, o + 1, none⟩ = some (.int .i64 l') := (hrl.old g _ hlt9).trans (hcl' 1 (by decide))
          have s2 : wr.cell? ⟨g, o + 2, none⟩ = some (.int .i64 c') := (hrl.old g _ hlt9).trans (hcl' 2 (by decide))
          have s3 : wr.cell? ⟨g, o + 3, none⟩ = some (.string nm') := (hrl.old g _ hlt9).trans (hcl' 3 (by decide))
          have s4 : wr.cell? ⟨g, o + 4, none⟩ = some (.slice a1 n1 k1) := (hrl.old g _ hlt9).trans (hcl' 4 (by decide))
          have s5 : wr.cell? ⟨g, o + 5, none⟩ = some (.slice a2 n2 k2) := (hrl.old g _ hlt9).trans (hcl' 5 (by decide))
          have s6 : wr.cell? ⟨g, o + 6, none⟩ = some (.slice a3 n3 k3) := (hrl.old g _ hlt9).trans (hcl' 6 (by decide))
          have hg9 : g < wr.heap.size := by have := hrl.low; omega
          have hgB : ¬ g = w4.heap.size + 1 + 1 := by omega
          have HNX := Lib.hid (hrl.step hw4 hok' hat')
          have hne : ¬ (j : Int) = n := by omega
          have hne' : ¬ j = n := by omega
          have hne2 : (j == n) = false := by simpa using hne'
          clear hrl hok9 hat9 hcl9 hok' hat' hcl' HREL
          go_wp2_with (fail)
          go_roundw
          case rel => exact ⟨j + 1, by omega, by go_num, HNX.out⟩
          case measure => simp [intOf]; omega
        · obtain rfl : n = j := by omega
          clear hlt2
          rw [Nat.sub_self] at hok9
          obtain ⟨l9, c9, nm9, ea, ec, ta, tc, lv, rfl, hlv⟩ := chain_end hat9 hok9
          rcases hlv with ⟨lr, g, o, cap, rfl, hlt9, hc9⟩ | ⟨lr, la, lcap, rfl⟩
          · cases lr
          · have b0 : wr.cell? ⟨w4.heap.size + 1 + 1, 0, none⟩ = some (.int .i64 4) := hcl9 0 (by decide)
            have b1 : wr.cell? ⟨w4.heap.size + 1 + 1, 1, none⟩ = some (.int .i64 l9) := hcl9 1 (by decide)
            have b2 : wr.cell? ⟨w4.heap.size + 1 + 1, 2, none⟩ = some (.int .i64 c9) := hcl9 2 (by decide)
            have b3 : wr.cell? ⟨w4.heap.size + 1 + 1, 3, none⟩ = some (.string nm9) := hcl9 3 (by decide)
            have b4 : wr.cell? ⟨w4.heap.size + 1 + 1, 4, none⟩ = some (.slice ea 1 ec) := hcl9 4 (by decide)
            have b5 : wr.cell? ⟨w4.heap.size + 1 + 1, 5, none⟩ = some (.slice ta 1 tc) := hcl9 5 (by decide)
            have b6 : wr.cell? ⟨w4.heap.size + 1 + 1, 6, none⟩ = some (.slice la 0 lcap) := hcl9 6 (by decide)
            have HRL := Lib.hid hrl
            clear hrl hok9 hat9 hcl9 HREL lr
            go_wp2_with (fail)
            go_ret
            exact ⟨rfl, below_grown HRL.out.grown (Nat.le_refl _)⟩

set_option maxHeartbeats 4000000 in
set_option maxRecDepth 100000 in
theorem chains_true (a : Int) (n : Nat) (hn : n < 64) (hna : bits .and .i64 a 63 = (n : Int)) (w : World) (hg : Ground w) :
    Calls Tryd.prog 5 #[.int .i64 a, .bool true] w fun e w' => e = .returned (.bool true) ∧ Below w.heap.size w w' := by
  have HG := Lib.hid hg
  clear hg
  go_enter Tryd.func5, Tryd.ntmps5
  go_wp2_with (fail)
  refine (head_any _ HG.out).mono ?_
  rintro e w1 ⟨rfl, hg1⟩
  have HG1 := Lib.hid hg1
  clear hg1
  go_upto_region 6 with (fail)
  clear hna
  go_loop [5, 6] (fun x i => ∃ k : Nat, k ≤ n ∧ i = .int .i64 ((k + 1 : Nat) : Int) ∧ x = .string ⟨(chFirst ++ rep k chElse).toArray⟩) (fun _ i => n + 1 - (intOf i).toNat)
  case atStart => exact ⟨0, Nat.zero_le _, rfl, rfl⟩
  case round =>
    obtain ⟨k, hk, rfl, rfl⟩ := hrel
    have hx1 : (chFirst ++ rep k chElse).length ≤ 31 + 26 * k := by rw [List.length_append, rep_length, Nat.mul_comm]; exact Nat.le_refl _
    rw [← size_list] at hx1
    by_cases hlt2 : k < n
    · have hlt3 : k + 1 ≤ n := by omega
      have HX := Lib.hid (show (⟨(chFirst ++ rep k chElse).toArray⟩ : ByteArray) ++ ⟨#[32, 101, 108, 115, 101, 32, 105, 102, 32, 97, 32, 61, 61, 32, 49, 32, 123, 32, 120, 32, 61, 32, 49, 59, 32, 125]⟩ = ⟨(chFirst ++ rep (k + 1) chElse).toArray⟩ by
        rw [rep_snoc, ← List.append_assoc, ← cat_lists]; rfl)
      generalize (⟨(chFirst ++ rep k chElse).toArray⟩ : ByteArray) = X at hx1 HX
      have hXs : X.size ≤ 2000 := by omega
      clear hx1
      go_wp2_with (fail)
      go_round
      case rel => exact ⟨k + 1, by omega, by go_num, by rw [HX.out]⟩
      case measure => simp [intOf]; omega
    · obtain rfl : n = k := by omega
      clear hlt2
      have HT := Lib.hid (show ((⟨(chFirst ++ rep n chElse).toArray⟩ : ByteArray) ++ ⟨#[32, 101, 108, 115, 101, 32, 123, 32, 120, 32, 61, 32, 50, 59, 32, 125]⟩ ++ ⟨#[32, 125]⟩).data.toList = chainText n true by
        simp [ByteArray.data_append, chainText, chLast, fnEnd])
      generalize (⟨(chFirst ++ rep n chElse).toArray⟩ : ByteArray) = X at hx1 HT
      have hXs : X.size ≤ 2000 := by omega
      clear hx1
      go_wp2_with (fail)
      refine (Program_any _ (by rw [ByteArray.size_append, ByteArray.size_append]; have q1 : (⟨#[32, 101, 108, 115, 101, 32, 123, 32, 120, 32, 61, 32, 50, 59, 32, 125]⟩ : ByteArray).size = 16 := rfl; have q2 : (⟨#[32, 125]⟩ : ByteArray).size = 2 := rfl; omega) _ (HG.out.more HG1.out).signs).mono ?_
      intro e w4 hp4
      rw [HT.out] at hp4
      obtain ⟨cs, rfl, hat4, hgr4⟩ := hp4
      have HX4 := Lib.hid (grown_trans HG1.out hgr4)
      clear hgr4
      obtain ⟨fn, hr, sm, r3, r4⟩ := chain_parse n true hn
      rw [hr] at hat4
      rw [hr]
      obtain ⟨gv4, fv4, rfl, hgl4, hfn4⟩ := hat4
      obtain ⟨ga4, gk4, gc4, rfl⟩ := hgl4.slice
      obtain ⟨g1, o1, cap1, pv, bv, rfl, hl1, hpar, hbody, c0, c1, c2⟩ := fns_one hfn4
      rw [r3] at hbody
      obtain ⟨g2, o2, cap2, cs, rfl, hl2, hat, hcells⟩ := body_row hbody
      obtain ⟨d', l', c', nm', a1, n1, k1, a2, n2, k2, a3, n3, k3, rfl⟩ := sm_slices hat
      have b0 : w4.cell? ⟨g2, o2, none⟩ = some (.int .i64 d') := hcells 0 (by decide)
      have b1 : w4.cell? ⟨g2, o2 + 1, none⟩ = some (.int .i64 l') := hcells 1 (by decide)
      have b2 : w4.cell? ⟨g2, o2 + 2, none⟩ = some (.int .i64 c') := hcells 2 (by decide)
      have b3 : w4.cell? ⟨g2, o2 + 3, none⟩ = some (.string nm') := hcells 3 (by decide)
      have b4 : w4.cell? ⟨g2, o2 + 4, none⟩ = some (.slice a1 n1 k1) := hcells 4 (by decide)
      have b5 : w4.cell? ⟨g2, o2 + 5, none⟩ = some (.slice a2 n2 k2) := hcells 5 (by decide)
      have b6 : w4.cell? ⟨g2, o2 + 6, none⟩ = some (.slice a3 n3 k3) := hcells 6 (by decide)
      have HAT := Lib.hid hat; have HOK := Lib.hid r4
      clear hgl4 hfn4 hpar hbody hat hcells hr r3 r4 c0 c1
      go_upto_region 16 with (fail)
      have hrel0 : ChRel w w4 (((w4.alloc (.cells #[.slice ga4 gk4 gc4, .slice (some ⟨g1, o1, none⟩) 1 cap1] 30)).alloc (.cells #[.int .i64 0, .int .i64 0, .int .i64 0] 34)).alloc (.cells #[.int .i64 d', .int .i64 l', .int .i64 c', .string nm', .slice a1 n1 k1, .slice a2 n2 k2, .slice a3 n3 k3] 45)) (w4.heap.size + 1 + 1) n 0 true (w1.heap.size ≤ ·) := by
        refine ⟨⟨sm, _, HOK.out, HAT.out, fun q hq => ?_⟩, fun q o hq => ?_, fun q => ?_, by omega, by simp, grown_trans (grown_trans (grown_trans HX4.out (grown_alloc _ _)) (grown_alloc _ _)) (grown_alloc _ _)⟩
        · exact Lib.cell_of_heap (alloc_at _ _ _ (by simp)) q
        · exact fns_keep (grown_trans (grown_trans (grown_alloc _ _) (grown_alloc _ _)) (grown_alloc _ _)) q hq o
        · exact Lib.frozen_of_heap (alloc_at _ _ _ (by simp)) q
      have HREL := Lib.hid hrel0
      have hw4 := HX4.out.size
      clear b0 b1 b2 b3 b4 b5 b6 hrel0 HAT HOK
      go_loopw [10] (fun i wr => ∃ j : Nat, j ≤ n ∧ i = .int .i64 j ∧ ChRel w w4 wr (w4.heap.size + 1 + 1) n j true (w1.heap.size ≤ ·)) (fun i _ => n + 1 - (intOf i).toNat)
      case atStart => exact ⟨0, Nat.zero_le _, rfl, HREL.out⟩
      case round =>
        obtain ⟨j, hj, rfl, hrl⟩ := hrel
        obtain ⟨sm9, cs9, hok9, hat9, hcl9⟩ := hrl.chain
        have hB := hrl.lt
        have f0 := hrl.free 0
        have f1 := hrl.free 1
        have f2 := hrl.free 2
        have f3 := hrl.free 3
        have f4 := hrl.free 4
        have f5 := hrl.free 5
        have f6 := hrl.free 6
        by_cases hlt2 : j < n
        · rw [show n - j = (n - (j + 1)) + 1 by omega] at hok9
          obtain ⟨l9, c9, nm9, ea, ec, ta, tc, g, o, cap, sm', cs', rfl, hlt9, hok', hat', hcl'⟩ := chain_more hat9 hok9
          obtain ⟨d', l', c', nm', a1, n1, k1, a2, n2, k2, a3, n3, k3, rfl⟩ := sm_slices hat'
          have b0 : wr.cell? ⟨w4.heap.size + 1 + 1, 0, none⟩ = some (.int .i64 4) := hcl9 0 (by decide)
          have b1 : wr.cell? ⟨w4.heap.size + 1 + 1, 1, none⟩ = some (.int .i64 l9) := hcl9 1 (by decide)
          have b2 : wr.cell? ⟨w4.heap.size + 1 + 1, 2, none⟩ = some (.int .i64 c9) := hcl9 2 (by decide)
          have b3 : wr.cell? ⟨w4.heap.size + 1 + 1, 3, none⟩ = some (.string nm9) := hcl9 3 (by decide)
          have b4 : wr.cell? ⟨w4.heap.size + 1 + 1, 4, none⟩ = some (.slice ea 1 ec) := hcl9 4 (by decide)
          have b5 : wr.cell? ⟨w4.heap.size + 1 + 1, 5, none⟩ = some (.slice ta 1 tc) := hcl9 5 (by decide)
          have b6 : wr.cell? ⟨w4.heap.size + 1 + 1, 6, none⟩ = some (.slice (some ⟨g, o, none⟩) 1 cap) := hcl9 6 (by decide)
          have s0 : wr.cell? ⟨g, o, none⟩ = some (.int .i64 d') := (hrl.old g _ hlt9).trans (hcl' 0 (by decide))
          have s1 : wr.cell? ⟨g, o + 1, none⟩ = some (.int .i64 l') := (hrl.old g _ hlt9).trans (hcl' 1 (by decide))
          have s2 : wr.cell? ⟨g, o + 2, none⟩ = some (.int .i64 c') := (hrl.old g _ hlt9).trans (hcl' 2 (by decide))
          have s3 : wr.cell? ⟨g, o + 3, none⟩ = some (.string nm') := (hrl.old g _ hlt9).trans (hcl' 3 (by decide))
          have s4 : wr.cell? ⟨g, o + 4, none⟩ = some (.slice a1 n1 k1) := (hrl.old g _ hlt9).trans (hcl' 4 (by decide))
          have s5 : wr.cell? ⟨g, o + 5, none⟩ = some (.slice a2 n2 k2) := (hrl.old g _ hlt9).trans (hcl' 5 (by decide))
          have s6 : wr.cell? ⟨g, o + 6, none⟩ = some (.slice a3 n3 k3) := (hrl.old g _ hlt9).trans (hcl' 6 (by decide))
          have hg9 : g < wr.heap.size := by have := hrl.low; omega
          have hgB : ¬ g = w4.heap.size + 1 + 1 := by omega
          have HNX := Lib.hid (hrl.step hw4 hok' hat')
          have hne : ¬ (j : Int) = n := by omega
          have hne' : ¬ j = n := by omega
          have hne2 : (j == n) = false := by simpa using hne'
          clear hrl hok9 hat9 hcl9 hok' hat' hcl' HREL
          go_wp2_with (fail)
          go_roundw
          case rel => exact ⟨j + 1, by omega, by go_num, HNX.out⟩
          case measure => simp [intOf]; omega
        · obtain rfl : n = j := by omega
          clear hlt2
          rw [Nat.sub_self] at hok9
          obtain ⟨l9, c9, nm9, ea, ec, ta, tc, lv, rfl, hlv⟩ := chain_end hat9 hok9
          rcases hlv with ⟨lr, g, o, cap, rfl, hlt9, hc9⟩ | ⟨lr, la, lcap, rfl⟩
          · have b0 : wr.cell? ⟨w4.heap.size + 1 + 1, 0, none⟩ = some (.int .i64 4) := hcl9 0 (by decide)
            have b1 : wr.cell? ⟨w4.heap.size + 1 + 1, 1, none⟩ = some (.int .i64 l9) := hcl9 1 (by decide)
            have b2 : wr.cell? ⟨w4.heap.size + 1 + 1, 2, none⟩ = some (.int .i64 c9) := hcl9 2 (by decide)
            have b3 : wr.cell? ⟨w4.heap.size + 1 + 1, 3, none⟩ = some (.string nm9) := hcl9 3 (by decide)
            have b4 : wr.cell? ⟨w4.heap.size + 1 + 1, 4, none⟩ = some (.slice ea 1 ec) := hcl9 4 (by decide)
            have b5 : wr.cell? ⟨w4.heap.size + 1 + 1, 5, none⟩ = some (.slice ta 1 tc) := hcl9 5 (by decide)
            have b6 : wr.cell? ⟨w4.heap.size + 1 + 1, 6, none⟩ = some (.slice (some ⟨g, o, none⟩) 1 cap) := hcl9 6 (by decide)
            have s0 : wr.cell? ⟨g, o, none⟩ = some (.int .i64 2) := (hrl.old g _ hlt9).trans hc9
            have hg9 : g < wr.heap.size := by have := hrl.low; omega
            have HRL := Lib.hid hrl
            clear hrl hok9 hat9 hcl9 HREL lr hc9
            go_wp2_with (fail)
            go_ret
            exact ⟨rfl, below_grown HRL.out.grown (Nat.le_refl _)⟩
          · cases lr

theorem all (a : Int) (ha : InI64 a) (b : Bool) (w : World) (hg : Ground w) :
    Calls Tryd.prog 5 #[.int .i64 a, .bool b] w fun e w' => e = .returned (.bool true) ∧ Below w.heap.size w w' := by
  cases b
  · exact chains_false a _ (by omega) (and63 a) w hg
  · exact chains_true a _ (by omega) (and63 a) w hg


theorem door_met (os : Os) (args : Array Value) : laidMetH Tryd.prog [("math/bits.deBruijn32tab", Rows.laid_math_bits_deBruijn32tab), ("math/bits.deBruijn64tab", Rows.laid_math_bits_deBruijn64tab), ("internal/strconv.uint64pow10", Rows.laid_internal_strconv_uint64pow10), ("palings/ast.signs", Rows.laid_palings_ast_signs)] ((World.doorLaid Tryd.prog 4000 os).forCall (fun _ _ => 0) ⟨#[], args, []⟩).memory :=
  laidMetH_of_parts3 (fuel := 8) (laidMet_of_run' 8 (by kernel_rfl) (by kernel_rfl)) (by kernel_rfl) (by kernel_rfl)
theorem own : ownKnob Tryd.prog.godebug = none := by kernel_rfl

set_option maxHeartbeats 2000000 in
set_option maxRecDepth 100000 in
theorem lifted (os : Os) (started : os.Started) (H : Type) (enc : TypeId × Value → H) :
    ReturnsInHanded {} Tryd.checked os 5 .any (fun w args => (Rows.parseChainsSpec.pre enc Tryd.prog Tryd.f5 [] false w args ∧ laidMetH Tryd.prog [("math/bits.deBruijn32tab", Rows.laid_math_bits_deBruijn32tab), ("math/bits.deBruijn64tab", Rows.laid_math_bits_deBruijn64tab), ("internal/strconv.uint64pow10", Rows.laid_internal_strconv_uint64pow10), ("palings/ast.signs", Rows.laid_palings_ast_signs)] w) ∧ sizedMet enc Tryd.prog Tryd.f5 (OpenSpec.ofChange Rows.parseChainsSpec) false w args)
      (Rows.parseChainsSpec.post enc Tryd.prog Tryd.f5 false true false false) := by
  refine returnsInHanded_of_change_and (C := Tryd.checked) (X := fun w _ => laidMetH Tryd.prog [("math/bits.deBruijn32tab", Rows.laid_math_bits_deBruijn32tab), ("math/bits.deBruijn64tab", Rows.laid_math_bits_deBruijn64tab), ("internal/strconv.uint64pow10", Rows.laid_internal_strconv_uint64pow10), ("palings/ast.signs", Rows.laid_palings_ast_signs)] w) (fun _ _ _ hh h => h.of_heap hh) own started (by kernel_rfl) Tryd.func5
    (ChangeSpec.witness_shaped (enc := enc) (C := Tryd.checked) (os := os) (X := fun w _ => laidMetH Tryd.prog [("math/bits.deBruijn32tab", Rows.laid_math_bits_deBruijn32tab), ("math/bits.deBruijn64tab", Rows.laid_math_bits_deBruijn64tab), ("internal/strconv.uint64pow10", Rows.laid_internal_strconv_uint64pow10), ("palings/ast.signs", Rows.laid_palings_ast_signs)] w) false (World.doorLaid Tryd.prog 4000 os) #[.int .i64 0, .bool false] 8 rfl (World.shaped_of_RefB (by kernel_rfl) (by kernel_rfl)) (by kernel_rfl) (by kernel_rfl) (by kernel_rfl) (door_met os _)) ?_
  intro W base args ds gs before hval0 hW _ _ hL _
  have hval : ∀ (j : Nat) t v, Tryd.f5.params[j]? = some t → args[j]? = some v → Value.okWide Tryd.prog W .any base t v := hval0
  have hW' := hW
  obtain ⟨p, q, hA0, hV, rfl, hfz, hnd⟩ := hW
  have hA : DataW.TrodAll enc Tryd.prog W 0 (fun _ => true) true Tryd.f5.params.toList args.toList ds p := hA0
  rw [Tryd.params5] at hA hval
  obtain ⟨v0, vs0, d0, ds0, p0, q0, hargs, rfl, rfl, h0, r0⟩ := trodAll_cons hA
  obtain ⟨v1, vs1, d1, ds1, p1, q1, rfl, rfl, rfl, h1, r1⟩ := trodAll_cons r0
  obtain ⟨rfl, rfl, rfl⟩ := trodAll_nil r1
  obtain rfl : args = #[v0, v1] := by cases args; simp_all
  obtain ⟨rfl, rfl⟩ := trodVars_none hV
  obtain ⟨a0, rfl, rfl, rfl, w0⟩ := open_int Tryd.underlying3 (hval 0 3 v0 rfl rfl) h0
  obtain ⟨a1, rfl, rfl, rfl⟩ := open_bool Tryd.underlying4 (hval 1 4 v1 rfl rfl) h1
  clear hA0 hval0
  simp only [List.append_nil] at hW'
  refine (all a0 (bounds_i64 w0) a1 W (ground_of (by kernel_rfl) (by simp) (by simp) hL)).mono fun e W' ⟨he, hg⟩ => ?_
  subst he
  exact ⟨_, rfl, post_new hW' (fun _ _ _ => (trodAll_cons_mk (shut_bool Tryd.underlying4 _) trodAll_mk0)) (fun sp => (trodAll_cons_mk (shut_int Tryd.underlying3 w0) (trodAll_cons_mk (shut_bool Tryd.underlying4 _) trodAll_mk0))) (fun _ => rfl) hg (ok_one (by kernel_rfl) rfl (okWide_bool_mk Tryd.underlying4 _))⟩

theorem row_holds : Rows.ParseChainsSaid :=
  OpenClaim.holds_of_wide 5 Tryd.f5 rfl rfl rfl rfl rfl rfl rfl ⟨rfl, rfl, rfl, rfl, rfl⟩ rfl rfl rfl rfl rfl (by kernel_rfl) Tryd.func5 (by kernel_rfl)
    (of_decide_eq_true (by kernel_rfl)) (by unfold Func.isWrapper; first | (rw [if_pos (by decide +kernel)]; kernel_rfl) | (rw [if_neg (by decide +kernel)]; exact ⟨rfl, rfl⟩))
    (fun os started H enc _ => lifted os started H enc)

/-- THE TIED CARD. -/
theorem proved : Rows.ParseChainsCardSaid :=
  Claim7.holds_tied_plain_at .later [] [.data, .data, .data, .data] true (true, "610b11168ef55bf6870f634f4d0465f649b1fd268af35aca64eca690de79b1ed") false
    row_holds (fun _ h => by cases h) (by kernel_rfl) (fun _ h => by cases h) parseChains_row_tie rfl ⟨rfl, rfl⟩ (by kernel_rfl) rfl
    (fun f fn hf hfn => by
      obtain rfl : f = 5 := Option.some.inj ((show Tryd.prog.funcNamed "palings/palingslaw04.ParseChains" = some 5 by kernel_rfl).symm.trans hf) |>.symm
      obtain rfl : fn = Tryd.f5 := (Option.some.inj (Tryd.func5.symm.trans hfn)).symm
      exact ⟨by kernel_rfl, fun j t ht => by
        rw [Tryd.params5] at ht
        have hm : t ∈ [3, 4] := by simpa using Array.mem_of_getElem? ht
        have hall : ([3, 4].all fun u => !Tryd.prog.wantsStandIn u) = true := by kernel_rfl
        exact (show Tryd.prog.wantsStandIn t = false by simpa using List.all_eq_true.1 hall t hm)⟩)
    (by kernel_rfl)
#print axioms proved
end Go.Proofs.YtgnnendcgbijnaaDoor.parseChains
