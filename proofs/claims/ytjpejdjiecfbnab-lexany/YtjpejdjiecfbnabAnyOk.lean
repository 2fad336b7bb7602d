/-
  LexAny: the walk where Lex answers tokens.
-/
import Derived.Test.YtjpejdjiecfbnabAnyMath
import Derived.Test.YtjpejdjiecfbnabAnyBad
import Derived.IntWalk
import Derived.Deep.RegionWith
import Derived.Deep.Cut
import Derived.Deep.CutRange
namespace Go.Proofs.Ytjpejdjiecfbnab.lexAny
open Go.ChangeShapes Go.WideShapes Go.ChangeAt Go.RowKit
set_option linter.unusedVariables false

def Toks (w : World) (g : Nat) (ts : List Tok) : Prop :=
  ∀ (i : Nat) (t : Tok), ts[i]? = some t → w.cell? ⟨g, 5 * i, none⟩ = some (.int .i64 t.kind) ∧ w.cell? ⟨g, 5 * i + 1, none⟩ = some (.string ⟨t.text.toArray⟩) ∧ w.cell? ⟨g, 5 * i + 2, none⟩ = some (.int .i64 t.num) ∧
      w.cell? ⟨g, 5 * i + 3, none⟩ = some (.int .i64 t.line) ∧ w.cell? ⟨g, 5 * i + 4, none⟩ = some (.int .i64 t.col)

theorem Toks.later {w w' : World} {g : Nat} {ts : List Tok} (h : Toks w g ts) (hc : ∀ o, w'.cell? ⟨g, o, none⟩ = w.cell? ⟨g, o, none⟩) : Toks w' g ts := fun i t ht => by simp only [hc]; exact h i t ht

theorem Box.later {w w' : World} {a b f : Nat} {s : ByteArray} {i : Nat} (h : Box w a b f s i) (hb : Below w.heap.size w w') (ha : a < w.heap.size) (hbb : b < w.heap.size) (hf : f < w.heap.size) : Box w' a b f s i :=
  ⟨(hb.cell (p := ⟨a, 0, none⟩) ha).trans h.ca, (hb.frozen (p := ⟨a, 0, none⟩) ha).trans h.fa, (hb.cell (p := ⟨b, 0, none⟩) hbb).trans h.cb, (hb.cell (p := ⟨f, 0, none⟩) hf).trans h.cf, h.ab, h.af⟩
theorem grown_cell {w w' : World} {a : Nat} (h : w.grownBy w' (some a)) {p : Addr} (hp : p.block < w.heap.size) (hne : p.block ≠ a) : w'.cell? p = w.cell? p :=
  World.cell?_of_block (w := w) (h.block p.block hp (fun e => hne (by cases e; rfl)))

theorem chain_pos {l : List UInt8} {ts : List Tok} {i j : Nat} (k : Nat) (hk : k < ts.length) (h : Chain l i (ts.drop k)) (hg : Gaps l i j) :
    ts[k].line = (posFrom 1 1 (l.take j)).1 ∧ ts[k].col = (posFrom 1 1 (l.take j)).2 := by
  rw [List.drop_eq_getElem_cons hk] at h
  generalize ts[k] = t at h ⊢
  generalize ts.drop (k + 1) = r at h
  cases h with
  | last _ hh => rw [gaps_same hg hh]; exact ⟨rfl, rfl⟩
  | more _ p _ hh _ _ _ _ => rw [gaps_same hg hh]; exact ⟨rfl, rfl⟩

theorem ex1 (s : ByteArray) (j n : Nat) : (⟨(List.take n (List.drop j s.data.toList)).toArray⟩ : ByteArray) = s.extract j (j + n) := by
  apply ByteArray.ext
  rw [ByteArray.data_extract, ← Array.toList_inj]
  simp [Array.toList_extract, List.extract]
theorem chain_last {l : List UInt8} {ts : List Tok} {i j : Nat} (k : Nat) (hk : k < ts.length) (hl : k + 1 = ts.length) (h : Chain l i (ts.drop k)) (hg : Gaps l i j) :
    ts[k].kind = 0 ∧ ts[k].text = [] ∧ j = l.length := by
  rw [List.drop_eq_getElem_cons hk] at h
  have hr : ts.drop (k + 1) = [] := List.drop_of_length_le (by omega)
  rw [hr] at h
  generalize ts[k] = t at h ⊢
  cases h with
  | last _ hh => exact ⟨rfl, rfl, gaps_same hg hh⟩
  | more _ p _ hh _ _ hn _ => exact absurd rfl hn
theorem chain_more {l : List UInt8} {ts : List Tok} {i j : Nat} (k : Nat) (hk : k < ts.length) (hl : k + 1 ≠ ts.length) (h : Chain l i (ts.drop k)) (hg : Gaps l i j) :
    ∃ n, (ts[k].kind == 0) = false ∧ ts[k].text = (l.drop j).take n ∧ 0 < n ∧ j + n ≤ l.length ∧ Chain l (j + n) (ts.drop (k + 1)) := by
  rw [List.drop_eq_getElem_cons hk] at h
  have hr : ts.drop (k + 1) ≠ [] := by intro e; have := congrArg List.length e; simp at this; omega
  generalize ts[k] = t at h ⊢
  generalize ts.drop (k + 1) = r at h hr ⊢
  cases h with
  | last _ hh => exact absurd rfl hr
  | more _ p _ hh hp he hn hc =>
    obtain rfl := gaps_same hg hh
    have hn := tokL_n _ he
    rw [List.length_drop] at hn
    exact ⟨_, kind_ne _ he, rfl, by omega, by omega, hc⟩

theorem place_in (s : ByteArray) (n B a b : Nat) (x y : Int) (hn : n ≤ s.size) (hs : s.size ≤ 500) (w3 : World) (hB : B < w3.heap.size) (ha : a < w3.heap.size) (hb : b < w3.heap.size) (h3 : w3.cell? ⟨B, 3, none⟩ = some (.int .i64 x)) (h4 : w3.cell? ⟨B, 4, none⟩ = some (.int .i64 y)) (hca : w3.cell? ⟨a, 0, none⟩ = some (.int .i64 n)) (hcb : w3.cell? ⟨b, 0, none⟩ = some (.string s)) :
    ∀ wx, Below w3.heap.size w3 wx → Calls Try.prog 10 #[.string s, .int .i64 n] wx fun e w' => e = .returned (.agg #[.int .i64 (posFrom 1 1 (s.data.toList.take n)).1, .int .i64 (posFrom 1 1 (s.data.toList.take n)).2]) ∧ Below w3.heap.size w3 w' ∧
      w'.cell? ⟨B, 3, none⟩ = some (.int .i64 x) ∧ w'.cell? ⟨B, 4, none⟩ = some (.int .i64 y) ∧ w'.cell? ⟨a, 0, none⟩ = some (.int .i64 n) ∧ w'.cell? ⟨b, 0, none⟩ = some (.string s) := by
  intro wx hx
  refine (place_any s n hn (by omega) wx).mono ?_
  rintro e w' ⟨rfl, hb'⟩
  have hz := hx.trans (hb'.mono hx.size)
  exact ⟨rfl, hz, (hz.cell (p := ⟨B, 3, none⟩) hB).trans h3, (hz.cell (p := ⟨B, 4, none⟩) hB).trans h4, (hz.cell (p := ⟨a, 0, none⟩) ha).trans hca, (hz.cell (p := ⟨b, 0, none⟩) hb).trans hcb⟩

set_option maxHeartbeats 1000000 in
set_option maxRecDepth 100000 in
theorem any_ok (s : ByteArray) (h : s.size ≤ 500) (ts : List Tok) (hl : ts.length ≤ 501) (he : lexL s.data.toList = .ok ts) (h0 : 0 < ts.length) (w : World) :
    Calls Try.prog 3 #[.string s] w fun e w' => e = .returned (.bool true) ∧ Below w.heap.size w w' := by
  have HE := Lib.hid he
  clear he
  go_enter Try.func3, Try.ntmps3
  go_wp2_with (fail)
  refine (head_any _).mono ?_; rintro e w1 ⟨rfl, hb1⟩
  have hc1 := hb1.cell (p := ⟨w.heap.size, 0, none⟩) (by simp)
  have hz1 : w.heap.size < w1.heap.size := by have := hb1.size; simp at this; omega
  go_wp2_with (fail)
  refine (all_ok _ (by omega) ts HE.out h0 _).mono ?_
  rintro e w2 ⟨g, cap, rfl, hb2, hg1, hg2, hcap, hcs⟩
  have hc2 := hb2.cell (p := ⟨w.heap.size, 0, none⟩) hz1
  have hz2 : w.heap.size < w2.heap.size := by have := hb2.size; omega
  have HB2 := Lib.hid (show Below w.heap.size w w2 from (((Below.refl _ w).alloc (Nat.le_refl _) _).trans (hb1.mono (by simp))).trans (hb2.mono (by omega)))
  have HT2 := Lib.hid (show Toks w2 g ts from hcs)
  clear hcs
  go_wp2_with (fail)
  go_loopw [51] (fun kk wr => ∃ k i : Nat, k < ts.length ∧ i ≤ s.size ∧ Box wr (w2.heap.size + 1 + 1) w.heap.size (w2.heap.size + 1) s i ∧ Chain s.data.toList i (ts.drop k) ∧ Below w.heap.size w wr ∧ w2.heap.size + 3 ≤ wr.heap.size ∧ Toks wr g ts ∧ kk = .int .i64 k) (fun kk _ => ts.length - (intOf kk).toNat)
  case atStart =>
    refine ⟨0, 0, h0, Nat.zero_le _, ?_, by simpa using chain_lex _ _ HE.out, ?_, ?_, ?_, rfl⟩
    · refine ⟨?_, ?_, ?_, ?_, by omega, by omega⟩
      · rw [World.cell?_alloc_at _ _ _ _ (by simp)]; rfl
      · rw [World.frozen?_alloc_at _ _ _ _ (by simp)]
      · rw [World.cell?_alloc_past _ _ _ (by simp; omega), World.cell?_alloc_past _ _ _ (by simp; omega), World.cell?_alloc_past _ _ _ (by omega), hc2, hc1, World.cell?_alloc_at _ _ _ _ rfl]; rfl
      · rw [World.cell?_alloc_past _ _ _ (by simp), World.cell?_alloc_at _ _ _ _ (by simp)]; rfl
    · exact ((HB2.out.alloc (by omega) _).alloc (by simp; omega) _).alloc (by simp; omega) _
    · simp
    · refine HT2.out.later (fun o => ?_)
      rw [World.cell?_alloc_past _ _ _ (by simp; omega), World.cell?_alloc_past _ _ _ (by simp; omega), World.cell?_alloc_past _ _ _ (by omega)]
  case round =>
    obtain ⟨k, i, hk, hi, hbox, hch, hbw, hsz, htk, rfl⟩ := hrel
    have HBX := Lib.hid hbox
    obtain ⟨ca, fa, cb, cf, ab, af⟩ := hbox
    obtain ⟨t0, t1, t2, t3, t4⟩ := htk k ts[k] (List.getElem?_eq_getElem hk)
    have HCH := Lib.hid hch; have HBW := Lib.hid hbw; have HTK := Lib.hid htk
    clear hch hbw htk
    have e5 : 5 * k = k * 5 := Nat.mul_comm _ _
    rw [e5] at t0 t1 t2 t3 t4
    go_wp2_with (fail)
    refine (gap9 s h _ _ _ i hi _ (HBX.out.later ((Below.refl _ wr).alloc (Nat.le_refl _) _) (by omega) (by omega) (by omega))).mono ?_
    rintro e w3 ⟨j, rfl, hj, hgap, hgr, hbox3⟩
    have HGR := Lib.hid hgr; have HGAP := Lib.hid hgap; have HBX3 := Lib.hid hbox3
    have hz3 := hgr.size
    have hT := fun o => grown_cell hgr (p := ⟨wr.heap.size, o, none⟩) (by simp) (by simp; omega)
    have T0 := hT 0; have T1 := hT 1; have T2 := hT 2; have T3 := hT 3; have T4 := hT 4
    clear hT hgr hgap
    obtain ⟨ca3, fa3, cb3, cf3, _, _⟩ := hbox3
    clear ca fa cb cf t0 t1 t2 t3 t4
    go_wp2_with (fail)
    have hzz : wr.heap.size < w3.heap.size := by simp at hz3; omega
    have hpos := chain_pos k hk HCH.out HGAP.out
    have U3 : w3.cell? ⟨wr.heap.size, 3, none⟩ = some (.int .i64 (posFrom 1 1 (s.data.toList.take j)).1) := by rw [T3, ← hpos.1, World.cell?_alloc_new]; rfl
    have U4 : w3.cell? ⟨wr.heap.size, 4, none⟩ = some (.int .i64 (posFrom 1 1 (s.data.toList.take j)).2) := by rw [T4, ← hpos.2, World.cell?_alloc_new]; rfl
    clear T3 T4
    have HP := Lib.hid (place_in s j wr.heap.size (w2.heap.size + 1 + 1) w.heap.size _ _ hj h w3 hzz (by omega) (by omega) U3 U4 ca3 cb3)
    have HB0 := HP.out
    go_cut [51, 63] from 51 to 120 (fun q c wx => q = .int .i64 k ∧ c = .bool false ∧ Below w3.heap.size w3 wx)
    case first =>
      go_region_with ((go_at_call 10; refine (HP.out _ (by repeat (first | exact Below.refl _ _ | apply Below.drew))).mono ?_; rintro e w9 ⟨rfl, hb9, v3, v4, va, vb⟩))
      all_goals (go_wp2_with (fail))
      all_goals go_meet
      all_goals (case rel => exact ⟨rfl, rfl, by first | exact hb9 | (repeat (first | exact hb9 | apply Below.drew))⟩)
    case rest =>
      obtain ⟨rfl, rfl, hbc⟩ := hcut
      have V0 : wc.cell? ⟨wr.heap.size, 0, none⟩ = some (.int .i64 ts[k].kind) := by rw [hbc.cell (p := ⟨wr.heap.size, 0, none⟩) hzz, T0, World.cell?_alloc_new]; rfl
      have V1 : wc.cell? ⟨wr.heap.size, 1, none⟩ = some (.string ⟨ts[k].text.toArray⟩) := by rw [hbc.cell (p := ⟨wr.heap.size, 1, none⟩) hzz, T1, World.cell?_alloc_new]; rfl
      have hbox9 := HBX3.out.later hbc (by omega) (by omega) (by omega)
      have HBX9 := Lib.hid hbox9
      obtain ⟨ca9, fa9, cb9, cf9, _, _⟩ := hbox9
      have HBC := Lib.hid hbc
      have HBW9 := Lib.hid (show Below w.heap.size w wc from (((HBW.out.alloc (by omega) _).grown HGR.out (by simp; omega) (fun q hq => by cases hq; omega))).trans (hbc.mono (by omega)))
      have HTK9 := Lib.hid (show Toks wc g ts from HTK.out.later (fun o => by
        rw [hbc.cell (p := ⟨g, o, none⟩) (by show g < w3.heap.size; omega), grown_cell HGR.out (p := ⟨g, o, none⟩) (by simp; omega) (by show g ≠ w2.heap.size + 1 + 1; omega)]
        exact ((Below.refl _ wr).alloc (Nat.le_refl _) _).cell (p := ⟨g, o, none⟩) (by show g < wr.heap.size; omega)))
      have hzc := hbc.size
      clear hbc T0 T1 T2 U3 U4 HP HB0 hpos ca3 fa3 cb3 cf3
      by_cases hlast : k + 1 = ts.length
      · obtain ⟨q1, q2, q3⟩ := chain_last k hk hlast HCH.out HGAP.out
        have e1 : ((k : Int) == (ts.length : Int) - 1) = true := by simp; omega
        rw [q1] at V0; rw [q2] at V1
        have q4 : j = s.size := by simpa using q3
        clear q1 q2 q3
        subst q4
        go_wp2_with (fail)
        go_ret
        exact ⟨rfl, HBW9.out⟩
      · obtain ⟨n, q1, q2, q3, q4, q5⟩ := chain_more k hk hlast HCH.out HGAP.out
        have e1 : ((k : Int) == (ts.length : Int) - 1) = false := by simp; omega
        have q4' : j + n ≤ s.size := by simpa using q4
        clear q4
        have HQ5 := Lib.hid q5
        have htl : ts[k].text.length = n := by rw [q2]; simp; omega
        have hex : (⟨ts[k].text.toArray⟩ : ByteArray) = s.extract j (j + n) := by
          rw [q2]; exact ex1 s j n
        have HHX := Lib.hid hex
        generalize hT : (⟨ts[k].text.toArray⟩ : ByteArray) = T at V1 hex HHX
        have hTs : T.size = n := by rw [← hT]; exact htl
        clear hT q2 htl hex q5
        have HTS := Lib.hid hTs
        have b1 : ((T.size : Int) == 0) = false := beq_eq_false_iff_ne.mpr (by omega)
        have b2 : decide ((s.size : Int) - j < T.size) = false := by simp; omega
        have b3 : IntKind.i64.wrap ((j : Int) + T.size) = j + T.size := IntWalk.i64_in _ (by omega)
        have b4 : IntKind.i64.wrap ((s.size : Int) - j) = s.size - j := IntWalk.i64_in _ (by omega)
        have b6 : (0 : Int) ≤ (j : Int) + T.size := by omega
        have b7 : ((j : Int) + T.size).toNat = j + T.size := by omega
        have b8 : j + T.size ≤ s.size := by omega
        have b9 : (j : Int) + T.size ≤ s.size := by omega
        have b10 : (j : Int) ≤ (j : Int) + T.size := by omega
        have b11 : j ≤ j + T.size := by omega
        have b5 : ((s.extract j (j + T.size)).toList == T.toList) = true := by rw [HTS.out, ← HHX.out]; simp
        clear hTs
        go_wp2_with (fail)
        go_quiet (fail)
        clear b3 b4 b7
        go_wp2_with (fail)
        go_roundw
        case rel =>
          have e2 : ((j : Int) + T.size) = ((j + n : Nat) : Int) := by have := HTS.out; omega
          first
            | rw [e2]
            | skip
          refine ⟨k + 1, j + n, by omega, q4', ?_, HQ5.out, ?_, ?_, ?_, by go_num⟩
          · exact (HBX9.out.drewN _).put _
          · refine Below.setCell ?_ ?_ _
            · exact ⟨HBW9.out.os, HBW9.out.tape, HBW9.out.output, HBW9.out.size, HBW9.out.block⟩
            · show w.heap.size ≤ w2.heap.size + 1 + 1
              omega
          · simp; omega
          · refine HTK9.out.later (fun o => ?_)
            rw [World.cell?_setCell_other _ _ _ _ (fun e => by have := congrArg Addr.block e; simp at this; omega)]
            rfl
        case measure => simp [intOf]; omega
end Go.Proofs.Ytjpejdjiecfbnab.lexAny
