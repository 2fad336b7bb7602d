/-
  The law's own 'of'.
-/
import Derived.Test.YtipongpgmbhpkaaDomAC
namespace Go.Proofs.Ytipongpgmbhpkaa
open Go.ChangeShapes Go.WideShapes Go.ChangeAt Go.RowKit
set_option linter.unusedVariables false

theorem infoBlock2 : (Try.prog.info? 49).map (fun i => (i.zero, i.size, i.bytes)) = some (some (.agg #[.slice none 0 0, .slice none 0 0, .int .i64 0, .int .i64 0, .slice none 0 0, .int .i64 0]), 6, 96) := by kernel_rfl
theorem own_type2 {w : World} {B : Nat} {e : TypeId} {s n : Nat} {v : Value} {xs : List Value} (h : w.ownsRow B e s v n xs) {q : Nat} (hq : v.ownBlock = some q) : ∃ cs, w.heap[q]? = some (.cells cs e (0, 0)) := own_type h hq
theorem ne_type' {w : World} {B R n s : Nat} {e t : TypeId} {v : Value} {xs : List Value} {cs : Array Value} (h : w.ownsRow B e s v n xs) (hR : w.heap[R]? = some (.cells cs t (0, 0))) (hne : e ≠ t) (hq : v.ownBlock = some R) : False := by
  obtain ⟨cs', h1⟩ := own_type h hq
  rw [hR] at h1
  simp only [Option.some.injEq, Obj.cells.injEq] at h1
  exact hne h1.2.1.symm
theorem own_apart2 {w : World} {B B' : Nat} {e e' : TypeId} {s s' n n' : Nat} {v v' : Value} {xs xs' : List Value} (h : w.ownsRow B e s v n xs) (h' : w.ownsRow B' e' s' v' n' xs') (hne : e ≠ e') {q : Nat} (hq : v.ownBlock = some q) : v'.ownBlock ≠ some q := own_apart h h' hne hq
theorem one_edge (x : Int) : ∀ u ∈ [Value.int .i64 x, Value.slice none 0 0], u.oneCell' = true := by
  intro u hu
  simp only [List.mem_cons, List.not_mem_nil, or_false] at hu
  rcases hu with rfl | rfl <;> rfl
theorem one_blk (a : Option Addr) (m c : Nat) : ∀ u ∈ blkCells (.slice a m c), u.oneCell' = true := by
  intro u hu
  unfold blkCells at hu
  simp only [List.mem_cons, List.not_mem_nil, or_false] at hu
  rcases hu with rfl | rfl | rfl | rfl | rfl | rfl <;> rfl
/-- A row of numbers below B, wherever an empty one may lie. -/
structure RowIn (B : Nat) (w : World) (v : Value) (xs : List Int) : Prop where
  form : ∃ a c, v = .slice a xs.length c ∧ (0 < xs.length → ∃ b off, a = some ⟨b, off, none⟩ ∧ b < B ∧ b < w.heap.size ∧ ∀ j x, xs[j]? = some x → w.cell? ⟨b, off + j, none⟩ = some (.int .i64 x))
theorem RowIn.of {B : Nat} {w : World} {v : Value} {xs : List Int} (h : RowAt B w v xs) : RowIn B w v xs := by
  rcases h.lies with ⟨rfl, rfl⟩ | ⟨b, off, cap, h1, h2, h3, h4⟩
  · exact ⟨none, 0, rfl, fun h => absurd h (by simp)⟩
  · exact ⟨_, _, h1, fun _ => ⟨b, off, rfl, h2, h3, h4⟩⟩
theorem RowIn.slice {B : Nat} {w : World} {v : Value} {xs : List Int} (h : RowIn B w v xs) : ∃ a c, v = .slice a xs.length c := by
  obtain ⟨a, c, h1, _⟩ := h.form
  exact ⟨a, c, h1⟩
theorem RowIn.get {B : Nat} {w : World} {v : Value} {xs : List Int} (h : RowIn B w v xs) (hne : 0 < xs.length) : ∃ b off cap, v = .slice (some ⟨b, off, none⟩) xs.length cap ∧ b < B ∧ b < w.heap.size ∧ ∀ j x, xs[j]? = some x → w.cell? ⟨b, off + j, none⟩ = some (.int .i64 x) := by
  obtain ⟨a, c, rfl, h1⟩ := h.form
  obtain ⟨b, off, rfl, h2, h3, h4⟩ := h1 hne
  exact ⟨b, off, c, rfl, h2, h3, h4⟩
theorem RowIn.below {B : Nat} {w w' : World} {v : Value} {xs : List Int} (h : RowIn B w v xs) (hb : Below B w w') : RowIn B w' v xs := by
  obtain ⟨a, c, rfl, h1⟩ := h.form
  refine ⟨a, c, rfl, fun hne => ?_⟩
  obtain ⟨b, off, h0, h2, h3, h4⟩ := h1 hne
  exact ⟨b, off, h0, h2, Nat.lt_of_lt_of_le h3 hb.size, fun j x hx => (hb.cell (p := ⟨b, off + j, none⟩) h2).trans (h4 j x hx)⟩
theorem RowIn.mono {B B' : Nat} {w : World} {v : Value} {xs : List Int} (h : RowIn B w v xs) (hB : B ≤ B') : RowIn B' w v xs := by
  obtain ⟨a, c, rfl, h1⟩ := h.form
  refine ⟨a, c, rfl, fun hne => ?_⟩
  obtain ⟨b, off, h0, h2, h3, h4⟩ := h1 hne
  exact ⟨b, off, h0, Nat.lt_of_lt_of_le h2 hB, h3, h4⟩
structure OutsIn (B : Nat) (w : World) (b off cap : Nat) (outs : List (List Int)) : Prop where
  low : b < B
  lt : b < w.heap.size
  rows : ∀ i xs, outs[i]? = some xs → ∃ v, w.cell? ⟨b, off + i, none⟩ = some v ∧ RowIn B w v xs
theorem OutsIn.below {B : Nat} {w w' : World} {b off cap : Nat} {outs : List (List Int)} (h : OutsIn B w b off cap outs) (hb : Below B w w') : OutsIn B w' b off cap outs :=
  ⟨h.low, Nat.lt_of_lt_of_le h.lt hb.size, fun i xs hi => by
    obtain ⟨v, h1, h2⟩ := h.rows i xs hi
    exact ⟨v, (hb.cell (p := ⟨b, off + i, none⟩) h.low).trans h1, h2.below hb⟩⟩
theorem OutsIn.mono {B B' : Nat} {w : World} {b off cap : Nat} {outs : List (List Int)} (h : OutsIn B w b off cap outs) (hB : B ≤ B') : OutsIn B' w b off cap outs :=
  ⟨Nat.lt_of_lt_of_le h.low hB, h.lt, fun i xs hi => by
    obtain ⟨v, h1, h2⟩ := h.rows i xs hi
    exact ⟨v, h1, h2.mono hB⟩⟩
def WaysAt (B : Nat) (w : World) (a : Option Addr) (ways : List (List Int)) : Prop := ways ≠ [] → ∃ b off cap, a = some ⟨b, off, none⟩ ∧ OutsIn B w b off cap ways
structure OfAt (B : Nat) (w : World) (bv : Value) (evs : List Value) (ways : List (List Int)) : Prop where
  res : w.heap[B]? = some (.cells #[.string ⟨#[]⟩, .slice none 0 0] 30 (0, 0))
  fb : w.heap[B + 1]? = some (.cells #[.string ⟨#[]⟩, bv] 30 (0, 0))
  blks : w.ownsRow B 49 6 bv evs.length (blksCells evs)
  edges : ∀ (i : Nat) (ev : Value) (row : List Int), evs[i]? = some ev → ways[i]? = some row → w.ownsRow B 51 2 ev row.length (edgeCells row)
theorem OfAt.below {B : Nat} {w w' : World} {bv : Value} {evs : List Value} {ways : List (List Int)} (h : OfAt B w bv evs ways) (hb : Below w.heap.size w w') : OfAt B w' bv evs ways :=
  ⟨(hb.block _ (lt_heap h.res)).trans h.res, (hb.block _ (lt_heap h.fb)).trans h.fb, own_keep h.blks (fun q hq => hb.block q (h.blks.lt q hq).2), fun i ev row he hw => own_keep (h.edges i ev row he hw) (fun q hq => hb.block q ((h.edges i ev row he hw).lt q hq).2)⟩
/-- One block more. -/
theorem OfAt.more {B : Nat} {w w' : World} {bv : Value} {evs : List Value} {ways : List (List Int)} {row : List Int} {ev : Value} {g' cap' : Nat} (h : OfAt B w bv evs ways) (hrow : ways[evs.length]? = some row) (hev : w.ownsRow B 51 2 ev row.length (edgeCells row)) (hown : w'.ownsRow B 49 6 (.slice (some ⟨g', 0, none⟩) (evs.length + 1) cap') (evs.length + 1) (blksCells evs ++ blkCells ev)) (hg : w.grownBy w' bv.ownBlock) :
    OfAt B (w'.setCell ⟨B + 1, 1, none⟩ (.slice (some ⟨g', 0, none⟩) (evs.length + 1) cap')) (.slice (some ⟨g', 0, none⟩) (evs.length + 1) cap') (evs ++ [ev]) ways := by
  have n1 : bv.ownBlock ≠ some B := fun e => ne_type' h.blks h.res (by decide) e
  have n2 : bv.ownBlock ≠ some (B + 1) := fun e => ne_type' h.blks h.fb (by decide) e
  have hfb := (hg.block _ (lt_heap h.fb) (fun e => n2 e.symm)).trans h.fb
  have hres := (hg.block _ (lt_heap h.res) (fun e => n1 e.symm)).trans h.res
  have hedge : ∀ {k : Nat} {v : Value} {xs : List Value}, w.ownsRow B 51 2 v k xs → (w'.setCell ⟨B + 1, 1, none⟩ (.slice (some ⟨g', 0, none⟩) (evs.length + 1) cap')).ownsRow B 51 2 v k xs := by
    intro k v xs ho
    have h1 : w'.ownsRow B 51 2 v k xs := own_keep ho (fun q hq => hg.block q (ho.lt q hq).2 (fun e => own_apart2 ho h.blks (by decide) hq e.symm))
    refine own_keep h1 (fun q hq => Below.heap_setCell _ _ _ _ ?_)
    intro e
    exact ne_type' h1 hfb (by decide) (by rw [hq]; exact congrArg some e)
  have hne : B + 1 ≠ g' := fun e => ne_type' hown hfb (by decide) (by rw [e]; rfl)
  refine ⟨(Below.heap_setCell _ _ _ _ (by show B ≠ B + 1; omega)).trans hres, by rw [set_block _ _ _ _ _ _ hfb]; rfl, ?_, fun i v r he hw => ?_⟩
  · rw [List.length_append, List.length_singleton, blksCells_snoc]
    exact own_keep hown (fun q hq => Below.heap_setCell _ _ _ _ (fun e => hne (by have e1 : g' = q := Option.some.inj hq; rw [e1]; exact e.symm)))
  · rcases Nat.lt_trichotomy i evs.length with hi | rfl | hi
    · rw [List.getElem?_append_left hi] at he
      exact hedge (h.edges i v r he hw)
    · rw [List.getElem?_append_right (Nat.le_refl _), Nat.sub_self] at he
      simp only [List.getElem?_cons_zero, Option.some.injEq] at he
      subst he
      rw [hrow] at hw
      cases hw
      exact hedge hev
    · rw [List.getElem?_eq_none (by simp; omega)] at he; cases he
set_option maxHeartbeats 8000000 in
set_option maxRecDepth 100000 in
theorem lof_any {w : World} {ways : List (List Int)} {a : Option Addr} {cap : Nat} (hat : WaysAt w.heap.size w a ways) (hn : ways.length ≤ 1000000) (hr : ∀ r ∈ ways, r.length ≤ 1000000) :
    Calls Try.prog 11 #[.slice a ways.length cap] w fun e w' => ∃ nm bv, e = .returned (.agg #[.string nm, bv]) ∧ Below w.heap.size w w' ∧ BlocksAt w'.heap.size w' bv ways := by
  obtain ⟨i1, hi, hz0⟩ := Option.map_eq_some_iff.1 infoEdge
  obtain ⟨h1, h2, h3⟩ : i1.zero = some (.agg #[.int .i64 0, .slice none 0 0]) ∧ i1.size = 2 ∧ i1.bytes = 32 := by simpa using hz0
  have HJ := Lib.hid hi; have HY0 := Lib.hid h1; have HY1 := Lib.hid h2; have HY2 := Lib.hid h3
  clear hi h1 h2 h3 hz0
  obtain ⟨i0, hi, hz0⟩ := Option.map_eq_some_iff.1 infoBlock2
  obtain ⟨h1, h2, h3⟩ : i0.zero = some (.agg #[.slice none 0 0, .slice none 0 0, .int .i64 0, .int .i64 0, .slice none 0 0, .int .i64 0]) ∧ i0.size = 6 ∧ i0.bytes = 96 := by simpa using hz0
  have HI := Lib.hid hi; have HZ0 := Lib.hid h1; have HZ1 := Lib.hid h2; have HZ2 := Lib.hid h3
  clear hi h1 h2 h3 hz0
  have HAT := Lib.hid hat; have HR := Lib.hid hr
  obtain ⟨n, hnn⟩ : ∃ n, n = ways.length := ⟨_, rfl⟩
  have HN := Lib.hid hnn
  rw [← hnn] at hn ⊢
  clear hat hr hnn
  go_enter Try.func11, Try.ntmps11
  go_upto_region 3 with (fail)
  have HB1 := Lib.hid (show Below w.heap.size w ((w.alloc (.cells #[.string ⟨#[]⟩, .slice none 0 0] 30)).alloc (.cells #[.string ⟨#[]⟩, .slice none 0 0] 30)) from ((Below.refl _ _).alloc (Nat.le_refl _) _).alloc (by simp) _)
  have HO1 := Lib.hid (show OfAt w.heap.size ((w.alloc (.cells #[.string ⟨#[]⟩, .slice none 0 0] 30)).alloc (.cells #[.string ⟨#[]⟩, .slice none 0 0] 30)) (.slice none 0 0) [] ways from ⟨(Below.heap_alloc _ _ _ (by simp)).trans (alloc_at _ _ _ rfl), alloc_at _ _ _ (by simp), ⟨rfl, .inl ⟨rfl, rfl⟩⟩, fun i ev row he _ => by simp at he⟩)
  generalize ((w.alloc (.cells #[.string ⟨#[]⟩, .slice none 0 0] 30)).alloc (.cells #[.string ⟨#[]⟩, .slice none 0 0] 30)) = w1 at *
  go_loopw [12] (fun iv wr => ∃ (j : Nat) (evs : List Value) (bv : Value), j ≤ n ∧ iv = .int .i64 j ∧ evs.length = j ∧ Below w.heap.size w wr ∧ OfAt w.heap.size wr bv evs ways) (fun iv _ => n - (intOf iv).toNat)
  case atStart => exact ⟨0, [], .slice none 0 0, Nat.zero_le _, rfl, rfl, HB1.out, HO1.out⟩
  case round =>
    rename World => W0
    obtain ⟨j, evs, bv, hj, rfl, hel, hbr, hor⟩ := hrel
    have HEL := Lib.hid hel; have HBR := Lib.hid hbr; have HOR := Lib.hid hor
    by_cases hjn : j < n
    · have hji : (j : Int) < (n : Int) := by omega
      obtain ⟨row, hrow⟩ : ∃ r, ways[j]? = some r := ⟨_, List.getElem?_eq_getElem (by rw [← HN.out]; exact hjn)⟩
      obtain ⟨b, off, cap2, rfl, hat⟩ := HAT.out (fun e => by rw [e] at hrow; cases hrow)
      obtain ⟨rv, hc, hrv⟩ := (hat.below hbr).rows j row hrow
      have hbl := (hat.below hbr).lt
      have hrl : row.length ≤ 1000000 := HR.out row (List.mem_of_getElem? hrow)
      obtain ⟨ra, rc, rfl⟩ := hrv.slice
      have HRV := Lib.hid hrv; have HROW := Lib.hid hrow
      have hB0 : w.heap.size ≤ W0.heap.size := hbr.size
      clear hrv hrow hel hbr hor hj hat
      go_upto_region 7 with (fail)
      have HB2 := Lib.hid (show Below W0.heap.size W0 (W0.alloc (.cells #[.slice none 0 0, .slice none 0 0, .int .i64 0, .int .i64 0, .slice none 0 0, .int .i64 0] 49)) from (Below.refl _ _).alloc (Nat.le_refl _) _)
      have HBX := Lib.hid (alloc_at W0 (.cells #[.slice none 0 0, .slice none 0 0, .int .i64 0, .int .i64 0, .slice none 0 0, .int .i64 0] 49) W0.heap.size rfl)
      obtain ⟨bb, hbb⟩ : ∃ x, x = W0.heap.size := ⟨_, rfl⟩
      change Code.wp _ _ _ _ (W0.alloc (.cells #[.slice none 0 0, .slice none 0 0, .int .i64 0, .int .i64 0, .slice none 0 0, .int .i64 0] 49))
      generalize W0.alloc (.cells #[.slice none 0 0, .slice none 0 0, .int .i64 0, .int .i64 0, .slice none 0 0, .int .i64 0] 49) = w2 at *
      rw [← hbb] at HBX HB2 hB0 ⊢
      have HBQ := Lib.hid hbb
      clear hc hbl hbb
      go_loopw [19] (fun iv wx => ∃ (k : Nat) (ev : Value), k ≤ row.length ∧ iv = .int .i64 k ∧ Below bb W0 wx ∧ wx.heap[bb]? = some (.cells #[.slice none 0 0, .slice none 0 0, .int .i64 0, .int .i64 0, ev, .int .i64 0] 49 (0, 0)) ∧ wx.ownsRow bb 51 2 ev k (edgeCells (row.take k))) (fun iv _ => row.length - (intOf iv).toNat)
      case atStart => exact ⟨0, .slice none 0 0, Nat.zero_le _, rfl, HB2.out, HBX.out, ⟨rfl, .inl ⟨rfl, rfl⟩⟩⟩
      case round =>
        obtain ⟨k, ev, hk, rfl, hbx, hbox, hev⟩ := hrel
        have HBX2 := Lib.hid hbx; have HBOX := Lib.hid hbox; have HEV := Lib.hid hev
        have hbbl := lt_heap hbox
        by_cases hkl : k < row.length
        · have hki : (k : Int) < (row.length : Int) := by omega
          obtain ⟨x, hx⟩ : ∃ x, row[k]? = some x := ⟨_, List.getElem?_eq_getElem hkl⟩
          obtain ⟨rb, ro, rc2, hrv2, hrb, hrbl, hrc⟩ := HRV.out.get (by omega)
          have hrv1 : ra = some ⟨rb, ro, none⟩ ∧ rc = rc2 := by simp only [Value.slice.injEq] at hrv2; exact ⟨hrv2.1, hrv2.2.2⟩
          obtain ⟨rfl, rfl⟩ := hrv1
          have r1 := (hbx.cell (p := ⟨rb, ro + k, none⟩) (by show rb < bb; omega)).trans (hrc k x hx)
          have c4 : wr.cell? ⟨bb, 4, none⟩ = some ev := cell_ok hbox 4
          have HTK := Lib.hid (show edgeCells (row.take (k + 1)) = edgeCells (row.take k) ++ [.int .i64 x, .slice none 0 0] from by
            have hlt := (List.getElem?_eq_some_iff.1 hx).1
            rw [List.take_succ_eq_append_getElem hlt, edgeCells_snoc]
            rw [List.getElem?_eq_getElem hlt] at hx
            rw [Option.some.inj hx])
          have hbw : bb ≤ wr.heap.size := by omega
          have hevf : ∃ a c, ev = .slice a k c := by
            rcases own_forms hev with ⟨h0, h1⟩ | ⟨g, c, h0, _⟩
            · exact ⟨none, 0, by rw [h0, h1]⟩
            · exact ⟨_, _, h0⟩
          obtain ⟨ea, ec, rfl⟩ := hevf
          clear hrc hrv2 hrbl hx hbx hbox hev hk
          go_wp2_with (at_builtin; refine wpList_append_lies _ rfl _ _ 44 rfl bb 51 i1 (.agg #[.int .i64 0, .slice none 0 0]) 2 32 Try.underlying44 HJ.out HY0.out HY1.out HY2.out rfl (by decide) _ k (edgeCells (row.take k)) rfl ?hown ⟨wr.heap.size, 0, none⟩ 1 1 [.int .i64 x, .slice none 0 0] rfl rfl ?hnews (one_edge _) (by decide) ?h63 ?hby ?hba (wr.heap.size + 1) ?hH ?_)
          case hown => exact own_keep HEV.out (fun q hq => Below.heap_alloc _ _ _ (HEV.out.lt q hq).2)
          all_goals try (case hnews => exact World.news_of_block (cs := #[.int .i64 x, .slice none 0 0]) (alloc_at _ _ _ rfl))
          all_goals try (case h63 => unfold maxLen; omega)
          all_goals try (case hby => omega)
          all_goals try (case hba => first | omega | (simp; omega))
          all_goals try (case hH => simp)
          intro b4 cap4 w4 hown4 hgr4 hat4 hlt4
          have hboxa := (Below.heap_alloc wr (.cells #[.int .i64 x, .slice none 0 0] 51) bb hbbl).trans HBOX.out
          have hbox4 := (hgr4.block bb (by simp; omega) (fun e => ne_type' HEV.out HBOX.out (by decide) e.symm)).trans hboxa
          have d4 : w4.cell? ⟨bb, 4, none⟩ = some (.slice ea k ec) := cell_ok hbox4 4
          have d5 : w4.frozen? ⟨bb, 4, none⟩ = false := Lib.frozen_of_heap hbox4 4
          have d6 := lt_heap hbox4
          have HB4 := Lib.hid (below_put ((HBX2.out.alloc hbw (.cells #[.int .i64 x, .slice none 0 0] 51)).grown hgr4 (by simp; omega) (fun q hq => (HEV.out.lt q hq).1)) (Nat.le_refl bb) 4 (.slice (some ⟨b4, 0, none⟩) (k + 1) cap4))
          have HBOX4 := Lib.hid (show (w4.setCell ⟨bb, 4, none⟩ (.slice (some ⟨b4, 0, none⟩) (k + 1) cap4)).heap[bb]? = some (.cells #[.slice none 0 0, .slice none 0 0, .int .i64 0, .int .i64 0, .slice (some ⟨b4, 0, none⟩) (k + 1) cap4, .int .i64 0] 49 (0, 0)) from by rw [set_block _ _ _ _ _ _ hbox4]; rfl)
          have HEV4 := Lib.hid (show (w4.setCell ⟨bb, 4, none⟩ (.slice (some ⟨b4, 0, none⟩) (k + 1) cap4)).ownsRow bb 51 2 (.slice (some ⟨b4, 0, none⟩) (k + 1) cap4) (k + 1) (edgeCells (row.take (k + 1))) from by
            rw [HTK.out]
            refine own_keep hown4 (fun q hq => Below.heap_setCell _ _ _ _ ?_)
            intro e
            exact ne_type' hown4 hbox4 (by decide) (by rw [hq]; exact congrArg some e))
          clear hboxa hbox4 hown4 hgr4 hat4 hlt4
          go_wp2_with (fail)
          go_roundw
          case rel => exact ⟨k + 1, .slice (some ⟨b4, 0, none⟩) (k + 1) cap4, by omega, by go_num, HB4.out, HBOX4.out, HEV4.out⟩
          case measure => simp [intOf]; omega
        · obtain rfl : row.length = k := by omega
          rw [List.take_length] at hev
          have HEVR := Lib.hid hev
          have hor2 := HOR.out.below (w' := wr) (by rw [← HBQ.out]; exact HBX2.out)
          have HOR2 := Lib.hid hor2
          have hevB : wr.ownsRow w.heap.size 51 2 ev row.length (edgeCells row) := own_mono hev hB0
          have HEVB := Lib.hid hevB
          obtain ⟨ea, ec, rfl⟩ : ∃ a c, ev = .slice a row.length c := by
            rcases own_forms hev with ⟨h0, h1⟩ | ⟨g, c, h0, _⟩
            · exact ⟨none, 0, by rw [h0, h1]⟩
            · exact ⟨_, _, h0⟩
          obtain ⟨ba, bc, rfl⟩ : ∃ a c, bv = .slice a evs.length c := by
            rcases own_forms hor2.blks with ⟨h0, h1⟩ | ⟨g, c, h0, _⟩
            · exact ⟨none, 0, by rw [h0, h1]⟩
            · exact ⟨_, _, h0⟩
          have hfb := hor2.fb
          have f1 : wr.cell? ⟨w.heap.size + 1, 1, none⟩ = some (.slice ba evs.length bc) := cell_ok hfb 1
          have g0 : wr.cell? ⟨bb, 0, none⟩ = some (.slice none 0 0) := cell_ok hbox 0
          have g1 : wr.cell? ⟨bb, 1, none⟩ = some (.slice none 0 0) := cell_ok hbox 1
          have g2 : wr.cell? ⟨bb, 2, none⟩ = some (.int .i64 0) := cell_ok hbox 2
          have g3 : wr.cell? ⟨bb, 3, none⟩ = some (.int .i64 0) := cell_ok hbox 3
          have g4 : wr.cell? ⟨bb, 4, none⟩ = some (.slice ea row.length ec) := cell_ok hbox 4
          have g5 : wr.cell? ⟨bb, 5, none⟩ = some (.int .i64 0) := cell_ok hbox 5
          have hfl := lt_heap hfb
          have hBw : w.heap.size ≤ wr.heap.size := by omega
          have HBRR := Lib.hid (HBR.out.trans (HBX2.out.mono hB0))
          have hel6 : evs.length ≤ 1000000 := by rw [HEL.out]; omega
          have hje : evs.length = j := HEL.out
          clear hev hor2 hevB hfb hbx hbox hk HBOX HEV
          rw [hje] at f1
          have hblk := HOR2.out.blks
          rw [hje] at hblk
          have HBLK := Lib.hid hblk
          have HJE := Lib.hid hje
          clear hje hblk
          go_wp2_with (at_builtin; refine wpList_append_lies _ rfl _ _ 28 rfl w.heap.size 49 i0 (.agg #[.slice none 0 0, .slice none 0 0, .int .i64 0, .int .i64 0, .slice none 0 0, .int .i64 0]) 6 96 Try.underlying28 HI.out HZ0.out HZ1.out HZ2.out rfl (by decide) _ j (blksCells evs) rfl ?hown ⟨wr.heap.size, 0, none⟩ 1 1 (blkCells (.slice ea row.length ec)) rfl rfl ?hnews (one_blk _ _ _) (by decide) ?h63 ?hby ?hba (wr.heap.size + 1) ?hH ?_)
          all_goals try (case hown => exact own_keep HBLK.out (fun q hq => Below.heap_alloc _ _ _ (HBLK.out.lt q hq).2))
          all_goals try (case hnews => exact World.news_of_block (cs := #[.slice none 0 0, .slice none 0 0, .int .i64 0, .int .i64 0, .slice ea row.length ec, .int .i64 0]) (alloc_at _ _ _ rfl))
          all_goals try (case h63 => unfold maxLen; omega)
          all_goals try (case hby => omega)
          all_goals try (case hba => first | omega | (simp; omega))
          all_goals try (case hH => simp)
          intro b5 cap5 w5 hown5 hgr5 hat5 hlt5
          rw [← HJE.out] at hgr5
          have hA := HOR2.out.below (w' := wr.alloc (.cells #[.slice none 0 0, .slice none 0 0, .int .i64 0, .int .i64 0, .slice ea row.length ec, .int .i64 0] 49)) ((Below.refl _ _).alloc (Nat.le_refl _) _)
          have hfbA := hA.fb
          have hfb5 := (hgr5.block (w.heap.size + 1) (by simp; omega) (fun e => ne_type' hA.blks hfbA (by decide) e.symm)).trans hfbA
          have d5 : w5.frozen? ⟨w.heap.size + 1, 1, none⟩ = false := Lib.frozen_of_heap hfb5 1
          have d6 := lt_heap hfb5
          have d4 : w5.cell? ⟨w.heap.size + 1, 1, none⟩ = some (.slice ba evs.length bc) := cell_ok hfb5 1
          have hevA : (wr.alloc (.cells #[.slice none 0 0, .slice none 0 0, .int .i64 0, .int .i64 0, .slice ea row.length ec, .int .i64 0] 49)).ownsRow w.heap.size 51 2 (.slice ea row.length ec) row.length (edgeCells row) := own_keep HEVB.out (fun q hq => Below.heap_alloc _ _ _ (HEVB.out.lt q hq).2)
          have HMORE := Lib.hid (hA.more (by rw [HJE.out]; exact HROW.out) hevA (by rw [HJE.out]; exact hown5) hgr5)
          have HB5 := Lib.hid (below_put ((HBRR.out.alloc hBw (.cells #[.slice none 0 0, .slice none 0 0, .int .i64 0, .int .i64 0, .slice ea row.length ec, .int .i64 0] 49)).grown hgr5 (by simp; omega) (fun q hq => (hA.blks.lt q hq).1)) (Nat.le_succ _) 1 (.slice (some ⟨b5, 0, none⟩) (j + 1) cap5))
          rw [HJE.out] at d4
          rw [HJE.out] at HMORE
          clear hA hfbA hfb5 hevA hown5 hgr5 hat5 hlt5
          go_wp2_with (fail)
          go_roundw
          case rel => exact ⟨j + 1, evs ++ [.slice ea row.length ec], .slice (some ⟨b5, 0, none⟩) (j + 1) cap5, by omega, by go_num, by rw [List.length_append, HJE.out]; rfl, HB5.out, HMORE.out⟩
          case measure => simp [intOf]; omega
    · obtain rfl : n = j := by omega
      have HBL := Lib.hid (blocks_of (HEL.out.trans HN.out) hor.blks hor.edges)
      have hfb := hor.fb; have hres := hor.res
      have f0 : W0.cell? ⟨w.heap.size + 1, 0, none⟩ = some (.string ⟨#[]⟩) := cell_ok hfb 0
      have f1 : W0.cell? ⟨w.heap.size + 1, 1, none⟩ = some bv := cell_ok hfb 1
      have r0 : W0.cell? ⟨w.heap.size, 0, none⟩ = some (.string ⟨#[]⟩) := cell_ok hres 0
      have r1 : W0.cell? ⟨w.heap.size, 1, none⟩ = some (.slice none 0 0) := cell_ok hres 1
      have hz0 : W0.frozen? ⟨w.heap.size, 0, none⟩ = false := Lib.frozen_of_heap hres 0
      have hz1 : W0.frozen? ⟨w.heap.size, 1, none⟩ = false := Lib.frozen_of_heap hres 1
      have hl0 := lt_heap hres
      have hl1 := lt_heap hfb
      obtain ⟨ba, bc, rfl⟩ : ∃ a c, bv = .slice a evs.length c := by
        rcases own_forms hor.blks with ⟨h0, h1⟩ | ⟨g, c, h0, _⟩
        · exact ⟨none, 0, by rw [h0, h1]⟩
        · exact ⟨_, _, h0⟩
      clear hel hbr hor hj hjn hfb hres
      go_wp2_with (fail)
      have hx1 : (W0.setCell ⟨w.heap.size, 0, none⟩ (.string ⟨#[]⟩)).heap[w.heap.size]? = some (.cells #[.string ⟨#[]⟩, .slice none 0 0] 30 (0, 0)) := by rw [set_block _ _ _ _ _ _ HOR.out.res]; rfl
      have hx2 : ((W0.setCell ⟨w.heap.size, 0, none⟩ (.string ⟨#[]⟩)).setCell ⟨w.heap.size, 1, none⟩ (.slice ba evs.length bc)).heap[w.heap.size]? = some (.cells #[.string ⟨#[]⟩, .slice ba evs.length bc] 30 (0, 0)) := by rw [set_block _ _ _ _ _ _ hx1]; rfl
      have hsame : ∀ q, q ≠ w.heap.size → ((W0.setCell ⟨w.heap.size, 0, none⟩ (.string ⟨#[]⟩)).setCell ⟨w.heap.size, 1, none⟩ (.slice ba evs.length bc)).heap[q]? = W0.heap[q]? := fun q hq => (Below.heap_setCell _ _ _ _ hq).trans (Below.heap_setCell _ _ _ _ hq)
      have hkeep : ∀ {e : TypeId} {s k : Nat} {v : Value} {xs : List Value}, e ≠ 30 → W0.ownsRow w.heap.size e s v k xs → ((W0.setCell ⟨w.heap.size, 0, none⟩ (.string ⟨#[]⟩)).setCell ⟨w.heap.size, 1, none⟩ (.slice ba evs.length bc)).ownsRow w.heap.size e s v k xs := by
        intro e s k v xs hne ho
        exact own_keep ho (fun q hq => hsame q (fun eq => ne_type' ho HOR.out.res hne (by rw [hq, eq])))
      have HB2 := below_put (below_put HBR.out (Nat.le_refl _) 0 (.string ⟨#[]⟩)) (Nat.le_refl _) 1 (.slice ba evs.length bc)
      have HBL2 := blocks_of (HEL.out.trans HN.out) (hkeep (by decide) HOR.out.blks) (fun i ev row he hw => hkeep (by decide) (HOR.out.edges i ev row he hw))
      have z0 := cell_ok hx2 0
      have z1 := cell_ok hx2 1
      simp only [List.getElem?_toArray, List.getElem?_cons_zero, List.getElem?_cons_succ] at z0 z1
      clear HO1 hx1 hx2 hsame hkeep
      generalize (W0.setCell ⟨w.heap.size, 0, none⟩ (.string ⟨#[]⟩)).setCell ⟨w.heap.size, 1, none⟩ (.slice ba evs.length bc) = w9 at *
      refine bodyPost_ret (v := .agg #[.string ⟨#[]⟩, .slice ba evs.length bc]) (by simp [results, Try.results11, go_sem, z0, z1]) rfl ?_
      exact ⟨_, _, rfl, HB2, HBL2⟩
end Go.Proofs.Ytipongpgmbhpkaa
