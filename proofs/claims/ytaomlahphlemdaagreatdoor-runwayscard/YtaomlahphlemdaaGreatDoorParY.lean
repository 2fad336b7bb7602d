/-
  The parser: a block, over what its statements are.
-/
import Derived.Test.YtaomlahphlemdaaGreatDoorParX
namespace Go.Proofs.YtaomlahphlemdaaGreatDoor
open Go.ChangeShapes Go.WideShapes Go.ChangeAt Go.RowKit
set_option linter.unusedVariables false

/-- Statements, each with its seven cells. -/
def AtAllS (w : World) (S : Nat → Prop) : List Sm → List (Array Value) → Prop
  | [], [] => True
  | e :: r, c :: cs => e.At w S c ∧ AtAllS w S r cs
  | _, _ => False
theorem AtAllS.keep {w w' : World} {S S' : Nat → Prop} (hS : ∀ g, S g → g < w.heap.size → S' g) (hk : ∀ g, S g → g < w.heap.size → ∀ o, w'.cell? ⟨g, o, none⟩ = w.cell? ⟨g, o, none⟩) : ∀ {es : List Sm} {cs : List (Array Value)}, AtAllS w S es cs → AtAllS w' S' es cs
  | [], [], _ => trivial
  | e :: r, c :: cs, h => ⟨Sm.At.keep hS hk e c h.1, AtAllS.keep hS hk h.2⟩
theorem AtAllS.snoc {w : World} {S : Nat → Prop} {e : Sm} {c : Array Value} (he : e.At w S c) : ∀ {es : List Sm} {cs : List (Array Value)}, AtAllS w S es cs → AtAllS w S (es ++ [e]) (cs ++ [c])
  | [], [], _ => ⟨he, trivial⟩
  | e :: r, c :: cs, h => ⟨h.1, AtAllS.snoc he h.2⟩
theorem AtAllS.row {w : World} {S : Nat → Prop} {g : Nat} : ∀ {es : List Sm} {cs : List (Array Value)} (o : Nat), AtAllS w S es cs → (∀ j u, (cs.flatMap Array.toList)[j]? = some u → w.cell? ⟨g, o + j, none⟩ = some u) → Sm.Row w S g o es
  | [], [], o, _, _ => by unfold Sm.Row; trivial
  | e :: r, c :: cs, o, h, hc => by
    unfold Sm.Row
    have hh := h.1
    obtain ⟨q1, q2, q3, q4, q5, q6, q7, q8, q9, q10, q11, q12, q13, rfl⟩ := h.1.cells
    generalize hcc : cellsS q1 q2 q3 q4 (.slice q5 q6 q7) (.slice q8 q9 q10) (.slice q11 q12 q13) = cc at hh hc
    have hl : cc.toList.length = 7 := by rw [← hcc]; rfl
    refine ⟨⟨cc, hh, fun j hj => ?_⟩, AtAllS.row (o + 7) h.2 fun j u hu => ?_⟩
    · have hs : cc[j]? = cc.toList[j]? := by simp
      have hlt : j < cc.toList.length := by omega
      rw [hs, List.getElem?_eq_getElem hlt]
      refine hc j _ ?_
      rw [List.flatMap_cons, List.getElem?_append_left hlt, List.getElem?_eq_getElem hlt]
    · have := hc (7 + j) u (by rw [List.flatMap_cons, List.getElem?_append_right (by omega), hl, Nat.add_sub_cancel_left]; exact hu)
      rwa [← Nat.add_assoc] at this
theorem infoStmt : (Tryz.prog.info? 55).map (fun i => (i.zero, i.size, i.bytes)) = some (some (.agg zeroS), 7, 112) := by kernel_rfl
theorem seven_oneS (a b c : Int) (x : ByteArray) (p : Option Addr) (q r : Nat) (p2 : Option Addr) (q2 r2 : Nat) (p3 : Option Addr) (q3 r3 : Nat) : ∀ u ∈ [Value.int .i64 a, .int .i64 b, .int .i64 c, .string x, .slice p q r, .slice p2 q2 r2, .slice p3 q3 r3], u.oneCell' = true := by
  intro u hu
  simp only [List.mem_cons, List.not_mem_nil, or_false] at hu
  rcases hu with rfl | rfl | rfl | rfl | rfl | rfl | rfl <;> rfl
theorem blockIn_fine (s : St) : (blockIn s).deep = s.deep + 1 ∧ (blockIn s).left.length ≤ s.left.length := by
  have h1 := s.must_fine [123]
  have h2 := (s.must [123]).enter_fine
  exact ⟨by unfold blockIn; rw [h2.1, h1.1], by unfold blockIn; omega⟩
theorem blockIn_len {R g : Nat} {s : St} {w : World} (h : Reads R g s w) (hg : Good s) (h2 : 2 ≤ (blockIn s).left.length) : (blockIn s).left.length + 1 ≤ s.left.length := by
  have h3 := (s.must [123]).enter_fine
  have h4 : (blockIn s).left.length ≤ (s.must [123]).left.length := h3.2
  cases hs : s.sees [[123]]
  · exfalso
    have : s.must [123] = s.refuse := by unfold St.must; rw [hs]; rfl
    rw [this] at h4
    unfold St.refuse St.fail at h4
    split at h4
    · simp at h4; omega
    · have := hg (by assumption); omega
  · have h5 := next_len h hs (by decide)
    have : s.must [123] = s.next := by unfold St.must; rw [hs]; rfl
    rw [this] at h4
    omega
theorem blockIn_good {s : St} (h : Good s) : Good (blockIn s) := St.enter_good (St.must_good h _)

/-- What a round of a block begins with: the list so far, in a row of its own. -/
structure SmRow (R g : Nat) (N : Nat) (st : ParS) (goal : List Sm × St) (d : Int) (out : Value) (w0 w : World) : Prop where
  went : Went R w0 w
  now : ∃ (k cap : Nat) (oa : Option Addr) (es : List Sm) (cs : List (Array Value)) (s : St), out = .slice oa es.length cap ∧ R < w0.heap.size ∧ w.ownsRow w0.heap.size 55 7 out es.length (cs.flatMap Array.toList) ∧ AtAllS w (fun q => w0.heap.size ≤ q ∧ out.ownBlock ≠ some q) es cs ∧ Reads R g s w ∧
    Good s ∧ s.left.length ≤ k ∧ s.left.length ≤ N ∧ es.length + s.left.length ≤ N ∧ s.deep = d ∧ blockLoop st k es s = goal

theorem block_out {R : Nat} {w0 w w2 : World} {oa : Option Addr} {cap : Nat} {es : List Sm} {cs : List (Array Value)} (h1 : w.ownsRow w0.heap.size 55 7 (.slice oa es.length cap) es.length (cs.flatMap Array.toList))
    (h2 : AtAllS w (fun q => w0.heap.size ≤ q ∧ (Value.slice oa es.length cap).ownBlock ≠ some q) es cs) (hlen : es.length ≤ 4611686018427387904) (hR : R < w0.heap.size) (hw : Went R w w2) : BodyAt w2 (w0.heap.size ≤ ·) es (.slice oa es.length cap) := by
  have hown2 := h1.kept hw (by
    cases hb : (Value.slice oa es.length cap).ownBlock with
    | none => exact .inl rfl
    | some b => refine .inr ?_; have := (h1.lt b hb).1; simp; omega)
  cases es with
  | nil => exact .inl ⟨rfl, _, _, rfl⟩
  | cons e r =>
    obtain ⟨b, cap', hv, hb, hlt⟩ := h1.form (by simp)
    cases hv
    refine .inr ⟨by simp, b, 0, cap, rfl, hb, ?_, hlen, ?_⟩
    · rcases hown2.2 with ⟨hv, _⟩ | ⟨g', cap', cur, hv, _, _, hle, _⟩
      · cases hv
      · cases hv; exact hle
    · have hall2 : AtAllS w2 (w0.heap.size ≤ ·) (e :: r) cs := h2.keep (fun q h _ => h.1) (fun q h hl o => World.cell?_of_block (hw.block q hl (by simp; have := h.1; omega)))
      exact hall2.row 0 fun j u hu => by have := hown2.cells (g := b) rfl j u hu; rwa [Go.WideShapes.add_plain] at this

theorem went_rowO {R : Nat} {o : Option Nat} {w w3 w4 : World} (h : Went R w w3) (hg : w3.grownBy w4 o) (hb : ∀ b, o = some b → w.heap.size ≤ b) : Went R w w4 :=
  ⟨hg.os.trans h.os, hg.tape.trans h.tape, hg.output.trans h.output, Nat.le_trans h.size hg.size, fun k hk hne => (hg.block k (Nat.lt_of_lt_of_le hk h.size) (fun e => by have := hb k e.symm; omega)).trans (h.block k hk hne)⟩
theorem Reads.rowO {R g : Nat} {o : Option Nat} {s : St} {w w' : World} (h : Reads R g s w) (hg : w.grownBy w' o) (hb : ∀ b, o = some b → R < b) : Reads R g s w' := by
  have h1 := h.lt; have h2 := h.low; have h3 := h.size
  obtain ⟨p, cap, a1, a2, a3⟩ := h.row
  exact ⟨h.lt, ⟨p, cap, (hg.block R h3 (fun e => by have := hb R e.symm; omega)).trans a1, a2, a3.keep fun p => World.cell?_of_block (hg.block g (by omega) (fun e => by have := hb g e.symm; omega))⟩, h.last, h.len, h.deep, h.low, h.signs.keep hg.size fun p => World.cell?_of_block (hg.block 1 (by have := h.signs.1; omega) (fun e => by have := hb _ e.symm; omega))⟩

theorem block_end {R g : Nat} {st : ParS} {s s2 : St} {w wr w5 : World} {oa : Option Addr} {cap : Nat} {es : List Sm} {cs : List (Array Value)} (hwt : Went R w wr) (h1 : wr.ownsRow w.heap.size 55 7 (.slice oa es.length cap) es.length (cs.flatMap Array.toList))
    (h2 : AtAllS wr (fun q => w.heap.size ≤ q ∧ (Value.slice oa es.length cap).ownBlock ≠ some q) es cs) (hlen : es.length ≤ 65537) (hR : R < w.heap.size) (hw5 : Went R wr w5) (hr5 : Reads R g (s2.must [125]) w5) (hd : 1 ≤ (s2.must [125]).deep) (hv : pBlock st s = (es, (s2.must [125]).leave)) :
    BodyPost R g (pBlock st s) w (.returned (.slice oa es.length cap)) (w5.setCell ⟨R, 1, none⟩ (.int .i64 ((s2.must [125]).deep - 1))) := by
  rw [hv]
  have := hr5.deep
  exact ⟨_, rfl, block_out h1 h2 (by show es.length ≤ _; omega) hR (went_setR hw5 _ _), hwt.trans (went_setR hw5 _ _), hr5.put1 _ (by omega)⟩
theorem kind_two {R g : Nat} {s : St} {w : World} (h : Reads R g s w) (hk : s.now.kind ≠ 0) : 2 ≤ s.left.length := by
  obtain ⟨t, r, e⟩ := List.exists_cons_of_ne_nil h.last.ne
  have hn : s.now = t := by unfold St.now; rw [e]; rfl
  have := LastEnd.two (t := t) (r := r) (by rw [← e]; exact h.last) (by rw [← hn]; exact hk)
  rw [e]
  cases r with
  | nil => exact absurd rfl this
  | cons => simp

set_option maxHeartbeats 4000000 in
set_option maxRecDepth 100000 in
theorem block_any {R g n : Nat} {st : ParS} (hst : ∀ s : St, Good s → s.left.length ≤ n → s.deep + 2 * s.left.length + 1 ≤ 300000 → SmAt R g 104 s (st s)) (hf : NeatS st) (hq : ∀ s : St, s.left.length ≤ n → Good s → 2 ≤ s.left.length → s.now.kind ≠ 0 → (st s).2.left.length < s.left.length) : BlockOk R g (n + 1) 93 (pBlock st) := by
  intro s w hgd hl hd h
  obtain ⟨i0, hi, hz⟩ := Option.map_eq_some_iff.1 infoStmt
  obtain ⟨hz0, hz1, hz2⟩ : i0.zero = some (.agg zeroS) ∧ i0.size = 7 ∧ i0.bytes = 112 := by simpa using hz
  have HI := Lib.hid hi; have HZ0 := Lib.hid hz0; have HZ1 := Lib.hid hz1; have HZ2 := Lib.hid hz2
  have HP := Lib.hid hst; have HF := Lib.hid hf; have HQ := Lib.hid hq; have HR := Lib.hid h
  have hRw := h.size
  have hlen := h.len
  have hdp := h.deep
  have HBL := Lib.hid (blockIn_len h hgd)
  have hbf := blockIn_fine s
  have hmf := s.must_fine [123]
  have HGD := Lib.hid hgd
  clear hst hf hq h hz hi hz0 hz1 hz2 hgd
  generalize hN : (blockIn s).left.length = N at *
  have HN := Lib.hid hN
  clear hN
  go_enter_defers Tryz.func93, Tryz.ntmps93
  go_wp2_with (fail)
  refine (must_any R g s [123] _ HR.out).mono ?_
  rintro e w1 ⟨rfl, hw1, hr1⟩
  have HW1 := Lib.hid hw1; have HR1 := Lib.hid hr1
  clear hw1 hr1
  go_wp2_with (fail)
  refine (enter_any R g (s.must [123]) _ HR1.out (by omega)).mono ?_
  rintro e w2 ⟨rfl, hw2, hr2⟩
  have hsz2 := (HW1.out.trans hw2).size
  have HAR := Lib.hid (show SmRow R g N st (blockLoop st N [] (blockIn s)) (s.deep + 1) (.slice none 0 0) w w2 from
    ⟨HW1.out.trans hw2, N, 0, none, [], [], blockIn s, rfl, hRw, World.ownsRow_nil w2 _ _ _, trivial, hr2, blockIn_good HGD.out, Nat.le_of_eq HN.out, Nat.le_of_eq HN.out, by simp [HN.out], hbf.1, rfl⟩)
  clear hw2 hr2
  go_wp2_with (fail)
  go_loopw [3] (fun out wr => SmRow R g N st (blockLoop st N [] (blockIn s)) (s.deep + 1) out w wr) (fun _ wr => lenOf wr R)
  case atStart => exact HAR.out
  case round =>
    obtain ⟨hwt, k, cap, oa, es, css, s2, rfl, hRw0, hown, hall, hrd, hgd2, hlk, hln, hes, hdd, hgo⟩ := hrel
    have HWT := Lib.hid hwt; have HOWN := Lib.hid hown; have HALL := Lib.hid hall; have HRD := Lib.hid hrd; have HGO := Lib.hid hgo; have HDD := Lib.hid hdd; have HGD2 := Lib.hid hgd2
    have hl1 : 1 ≤ s2.left.length := by have := hrd.last.ne; cases hq : s2.left with | nil => exact absurd hq this | cons => simp
    have hszr := hwt.size
    clear hwt hown hall hrd hgo hdd hgd2 HAR
    obtain ⟨k, rfl⟩ : ∃ q, k = q + 1 := ⟨k - 1, by omega⟩
    go_wp2_with (fail)
    refine (sees_any R g s2 _ 1 [[125]] (by decide) _ (HRD.out.alloc _) (by exact marks_of (alloc_at _ _ _ rfl)) (by simp)).mono ?_
    rintro e' w3 ⟨rfl, hg3⟩
    have hg3' := grown_trans (grown_alloc _ _) hg3
    have hsz3 := hg3'.size
    have HG3 := Lib.hid hg3'; have HR3 := Lib.hid (HRD.out.more hg3')
    clear hg3 hg3'
    cases hs : s2.sees [[125]]
    · go_wp2_with (fail)
      refine (now_any R g s2 _ HR3.out).mono ?_
      rintro e' w4 ⟨rfl, hg4⟩
      have hsz4 := hg4.size
      have HG4 := Lib.hid (grown_trans HG3.out hg4); have HR4 := Lib.hid (HR3.out.more hg4)
      clear hg4
      unfold tokAgg
      go_wp2_with (fail)
      rw [field_kind]
      simp only [Result.andThen]
      rw [Oper.upon_value]
      by_cases hk : s2.now.kind = 0
      · have b0 : (s2.now.kind != 0) = false := by simpa using hk
        have HGE := Lib.hid (show pBlock st s = (es, (s2.must [125]).leave) by
          have : blockLoop st N [] (blockIn s) = (es, s2) := by rw [← HGO.out, blockLoop, if_pos (.inr hk)]
          unfold pBlock; rw [HN.out, this])
        clear hk hs
        go_wp2_with (fail)
        refine (must_any R g s2 [125] _ HR4.out).mono ?_
        rintro e' w5 ⟨rfl, hw5, hr5⟩
        have HW5 := Lib.hid ((went_none HG4.out).trans hw5); have HR5 := Lib.hid hr5
        have hdd5 : 1 ≤ (s2.must [125]).deep := by have h1 := (s2.must_fine [125]).1; have h2 := HDD.out; omega
        clear hw5 hr5
        go_wp2_with (fail)
        refine leaves_cons (f := 103) (args := #[.pointer (some ⟨R, 0, none⟩)]) (by simp) (by simp [go_sem]) ?_
        refine (leave_d R g _ .returning _ HR5.out hdd5).mono ?_
        rintro e u' w'' ⟨rfl, rfl, rfl⟩
        refine ⟨_, results_tmp rfl _ _ _, ?_⟩
        exact block_end HWT.out HOWN.out HALL.out (by omega) hRw0 HW5.out HR5.out hdd5 HGE.out
      · have b0 : (s2.now.kind != 0) = true := by simpa using hk
        have hl2 := kind_two HRD.out hk
        have HGE := Lib.hid (show blockLoop st k (es ++ [(st s2).1]) (st s2).2 = blockLoop st N [] (blockIn s) by rw [← HGO.out, blockLoop, if_neg (by rw [hs]; simp [hk])])
        have hq2 := HQ.out s2 (by have := HBL.out (by omega); omega) HGD2.out hl2 hk
        have hn2 := HF.out s2
        have hbl := HBL.out (by omega)
        clear hk hs
        go_wp2_with (fail)
        refine (HP.out s2 HGD2.out (by omega) (by have := HDD.out; omega) _ HR4.out).mono ?_
        rintro e' w5 ⟨cs3, rfl, hat3, hw5, hr5⟩
        obtain ⟨q1, q2, q3, q4, q5, q6, q7, q8, q9, q10, q11, q12, q13, rfl⟩ := hat3.cells
        have hsz5 := hw5.size
        have hwb := (went_none HG4.out).trans hw5
        have hown5 := HOWN.out.kept hwb (by
          cases hb : (Value.slice oa es.length cap).ownBlock with
          | none => exact .inl rfl
          | some b => refine .inr ?_; have := (HOWN.out.lt b hb).1; simp; omega)
        have HWB := Lib.hid hwb; have HOWN5 := Lib.hid hown5; have HAT5 := Lib.hid hat3; have HR5 := Lib.hid hr5; have HN2 := Lib.hid hn2; have HW5 := Lib.hid hw5
        clear hwb hown5 hat3 hr5 hw5 hn2
        unfold cellsS
        go_wp2_with (first | (at_builtin; refine wpList_append_lies _ rfl _ _ 53 rfl w.heap.size 55 i0 (.agg zeroS) 7 112 Tryz.underlying53 HI.out HZ0.out HZ1.out HZ2.out rfl (by decide) _ es.length (css.flatMap Array.toList) rfl ?hown ⟨w5.heap.size, 0, none⟩ 1 1 [.int .i64 q1, .int .i64 q2, .int .i64 q3, .string ⟨q4.toArray⟩, .slice q5 q6 q7, .slice q8 q9 q10, .slice q11 q12 q13] rfl rfl ?hnews (seven_oneS _ _ _ _ _ _ _ _ _ _ _ _ _) (by decide) ?h63 ?hby ?hba (w5.heap.size + 1) ?hH ?_))
        case hown => exact HOWN5.out.alloc _
        case hnews => exact cells_at _ [.int .i64 q1, .int .i64 q2, .int .i64 q3, .string ⟨q4.toArray⟩, .slice q5 q6 q7, .slice q8 q9 q10, .slice q11 q12 q13] _ _ rfl
        case h63 => unfold maxLen; omega
        case hby => omega
        case hba => simp; omega
        case hH => simp
        intro b2 cap2 w6 hown6 hgrow6 hat6 hlt6
        have hb2 : (Value.slice oa es.length cap).ownBlock = some b2 ∨ b2 = w5.heap.size + 1 := hat6
        have hgr : (w5.alloc (.cells (cellsS q1 q2 q3 q4 (.slice q5 q6 q7) (.slice q8 q9 q10) (.slice q11 q12 q13)) 55)).grownBy w6 (Value.slice oa es.length cap).ownBlock := hgrow6
        have hga : w5.grownBy (w5.alloc (.cells (cellsS q1 q2 q3 q4 (.slice q5 q6 q7) (.slice q8 q9 q10) (.slice q11 q12 q13)) 55)) none := grown_alloc _ _
        have hlo : ∀ b, (Value.slice oa es.length cap).ownBlock = some b → w.heap.size ≤ b := fun b hb => (HOWN.out.lt b hb).1
        have hgoal : SmRow R g N st (blockLoop st N [] (blockIn s)) (s.deep + 1) (.slice (some ⟨b2, 0, none⟩) (es.length + 1) cap2) w w6 ∧ Reads R g (st s2).2 w6 := by
          have hrd6 : Reads R g (st s2).2 w6 := (HR5.out.alloc _).rowO hgr fun b hb => by have := hlo b hb; omega
          refine ⟨⟨went_rowO ((HWT.out.trans HWB.out).trans (went_none hga)) hgr hlo, k, cap2, some ⟨b2, 0, none⟩, es ++ [(st s2).1], css ++ [cellsS q1 q2 q3 q4 (.slice q5 q6 q7) (.slice q8 q9 q10) (.slice q11 q12 q13)], (st s2).2, by simp, hRw0, ?_, ?_, hrd6, HN2.out.good HGD2.out, by omega, by omega, by simp; omega, by rw [HN2.out.fine.1]; exact HDD.out, HGE.out⟩, hrd6⟩
          · have e1 : (css ++ [cellsS q1 q2 q3 q4 (.slice q5 q6 q7) (.slice q8 q9 q10) (.slice q11 q12 q13)]).flatMap Array.toList = css.flatMap Array.toList ++ [.int .i64 q1, .int .i64 q2, .int .i64 q3, .string ⟨q4.toArray⟩, .slice q5 q6 q7, .slice q8 q9 q10, .slice q11 q12 q13] := by
              rw [List.flatMap_append]; rfl
            rw [e1, List.length_append]
            exact hown6
          · have hnb : ∀ q, (Value.slice (some ⟨b2, 0, none⟩) (es.length + 1) cap2).ownBlock ≠ some q ↔ q ≠ b2 := fun q => by simp [Value.ownBlock]; omega
            refine AtAllS.snoc ?_ ?_
            · refine Sm.At.keep (fun q hq hlt => ?_) (fun q hq hlt o => ?_) _ _ HAT5.out
              · have hq' : w4.heap.size ≤ q := hq
                refine ⟨by omega, (hnb q).2 ?_⟩
                rcases hb2 with hb2 | hb2
                · have := (HOWN.out.lt b2 hb2).2; omega
                · omega
              · have hq' : w4.heap.size ≤ q := hq
                have hne : some q ≠ (Value.slice oa es.length cap).ownBlock := fun e => by have := (HOWN.out.lt q e.symm).2; omega
                rw [World.cell?_of_block (hgr.block q (by simp; omega) hne), World.cell?_of_block (hga.block q hlt (by simp))]
            · refine HALL.out.keep (fun q hq hlt => ?_) (fun q hq hlt o => ?_)
              · refine ⟨hq.1, (hnb q).2 ?_⟩
                rcases hb2 with hb2 | hb2
                · exact fun e => hq.2 (e ▸ hb2)
                · omega
              · rw [World.cell?_of_block (hgr.block q (by simp; omega) (fun e => hq.2 e.symm)), World.cell?_of_block (hga.block q (by omega) (by simp)), World.cell?_of_block (HWB.out.block q hlt (by simp; omega))]
        have hlen6 : lenOf w6 R = (st s2).2.left.length := lenOf_reads hgoal.2
        have HGOAL := Lib.hid hgoal.1; have HL6 := Lib.hid hlen6
        clear hgoal hlen6 hga hgr hgrow6 hown6 hat6 hb2 hlo
        go_wp2_with (fail)
        go_roundw
        case rel => exact HGOAL.out
        case measure => rw [HL6.out, lenOf_reads HRD.out]; omega
    · have HGE := Lib.hid (show pBlock st s = (es, (s2.must [125]).leave) by
        have : blockLoop st N [] (blockIn s) = (es, s2) := by rw [← HGO.out, blockLoop, if_pos (.inl hs)]
        unfold pBlock; rw [HN.out, this])
      clear hs
      go_wp2_with (fail)
      refine (must_any R g s2 [125] _ HR3.out).mono ?_
      rintro e' w5 ⟨rfl, hw5, hr5⟩
      have HW5 := Lib.hid ((went_none HG3.out).trans hw5); have HR5 := Lib.hid hr5
      have hdd5 : 1 ≤ (s2.must [125]).deep := by have h1 := (s2.must_fine [125]).1; have h2 := HDD.out; omega
      clear hw5 hr5
      go_wp2_with (fail)
      refine leaves_cons (f := 103) (args := #[.pointer (some ⟨R, 0, none⟩)]) (by simp) (by simp [go_sem]) ?_
      refine (leave_d R g _ .returning _ HR5.out hdd5).mono ?_
      rintro e u' w'' ⟨rfl, rfl, rfl⟩
      refine ⟨_, results_tmp rfl _ _ _, ?_⟩
      exact block_end HWT.out HOWN.out HALL.out (by omega) hRw0 HW5.out HR5.out hdd5 HGE.out
end Go.Proofs.YtaomlahphlemdaaGreatDoor
