/-
  dom: the walk, its memory; meet.
-/
import Derived.Test.YtipongpgmbhpkaaBag
import Derived.StillTailTactics
import Derived.IntWalk
namespace Go.Proofs.Ytipongpgmbhpkaa
open Go.ChangeShapes Go.WideShapes Go.ChangeAt Go.RowKit
open Go.Proofs.Ytipongpgmbhpkaa.RegInv
set_option linter.unusedVariables false

structure Wk where
  num : List Int
  par : List Int
  ins : List (List Int)
def Wk.meet (s : Wk) (place : Nat) (parent : Int) : Wk := ⟨s.num.set place (s.par.length : Int), s.par ++ [parent], s.ins ++ [[]]⟩
def wkRows (nv pv : Value) (hs : List Value) (s : Wk) (ext : List (Value × List Int)) : List (Value × List Int) := (nv, s.num) :: (pv, s.par) :: (ext ++ hs.zip s.ins)
structure WalkAt (B : Nat) (w : World) (W : Nat) (nv pv iv : Value) (hs : List Value) (s : Wk) (ext : List (Value × List Int)) : Prop where
  box : w.heap[W]? = some (.cells #[nv, pv, iv] 65 (0, 0))
  low : B ≤ W
  hdr : w.ownsRow B 35 1 iv hs.length hs
  len : hs.length = s.ins.length
  bag : Bag B w (wkRows nv pv hs s ext)
theorem WalkAt.below {B : Nat} {w w' : World} {W : Nat} {nv pv iv : Value} {hs : List Value} {s : Wk} {ext : List (Value × List Int)} (h : WalkAt B w W nv pv iv hs s ext) (hb : Below w.heap.size w w') : WalkAt B w' W nv pv iv hs s ext :=
  ⟨(hb.block W (lt_heap h.box)).trans h.box, h.low, own_keep h.hdr (fun q hq => hb.block q (h.hdr.lt q hq).2), h.len, h.bag.below hb⟩
theorem info35 : (Try.prog.info? 35).map (fun i => (i.zero, i.size, i.bytes)) = some (some (.slice none 0 0), 1, 24) := by kernel_rfl
theorem info3 : (Try.prog.info? 3).map (fun i => (i.zero, i.size, i.bytes)) = some (some (.int .i64 0), 1, 8) := by kernel_rfl
theorem one_int (x : Int) : ∀ u ∈ [Value.int .i64 x], u.oneCell' = true := by intro u hu; simp only [List.mem_cons, List.not_mem_nil, or_false] at hu; subst hu; rfl
theorem one_sl (a : Option Addr) (n c : Nat) : ∀ u ∈ [Value.slice a n c], u.oneCell' = true := by intro u hu; simp only [List.mem_cons, List.not_mem_nil, or_false] at hu; subst hu; rfl
theorem wbox {w : World} {b : Nat} {c0 c1 c2 : Value} {t : TypeId} (h : w.heap[b]? = some (.cells #[c0, c1, c2] t (0, 0))) : (w.cell? ⟨b, 0, none⟩ = some c0 ∧ w.cell? ⟨b, 1, none⟩ = some c1 ∧ w.cell? ⟨b, 2, none⟩ = some c2) ∧ (∀ j, w.frozen? ⟨b, j, none⟩ = false) ∧ b < w.heap.size :=
  ⟨⟨cell_ok h 0, cell_ok h 1, cell_ok h 2⟩, fun j => Lib.frozen_of_heap h j, lt_heap h⟩
theorem ne_type {w : World} {B R n : Nat} {e t : TypeId} {v : Value} {xs : List Value} {cs : Array Value} (h : w.ownsRow B e 1 v n xs) (hR : w.heap[R]? = some (.cells cs t (0, 0))) (hne : e ≠ t) {q : Nat} (hq : v.ownBlock = some q) : R ≠ q := by
  rintro rfl
  obtain ⟨cs', h1⟩ := own_type h hq
  rw [hR] at h1
  simp only [Option.some.injEq, Obj.cells.injEq] at h1
  exact hne h1.2.1.symm
theorem WalkAt.putnum {B : Nat} {w : World} {W g cap n : Nat} {pv iv : Value} {hs : List Value} {s : Wk} {ext : List (Value × List Int)} (h : WalkAt B w W (.slice (some ⟨g, 0, none⟩) n cap) pv iv hs s ext) (hn : s.num.length = n) {j : Nat} (hj : j < n) (x : Int) : WalkAt B (w.setCell ⟨g, j, none⟩ (.int .i64 x)) W (.slice (some ⟨g, 0, none⟩) n cap) pv iv hs ⟨s.num.set j x, s.par, s.ins⟩ ext := by
  have hr := h.bag.row 0 _ _ rfl
  have h0 : W ≠ g := ne_type hr h.box (by decide) rfl
  refine ⟨(Below.heap_setCell _ _ _ _ h0).trans h.box, h.low, own_keep h.hdr (fun q hq => Below.heap_setCell _ _ _ _ ?_), h.len, ?_⟩
  · rintro rfl
    exact own_apart h.hdr hr (by decide) hq rfl
  · have := h.bag.put (i := 0) (j := j) rfl hn hj x
    exact this
theorem WalkAt.apppar {B : Nat} {w w' : World} {W g' cap' n : Nat} {nv pv iv : Value} {hs : List Value} {s : Wk} {ext : List (Value × List Int)} (h : WalkAt B w W nv pv iv hs s ext) (hn : s.par.length = n) (x : Int) (hown : w'.ownsRow B 3 1 (.slice (some ⟨g', 0, none⟩) (n + 1) cap') (n + 1) (s.par.map iV ++ [.int .i64 x])) (hg : w.grownBy w' pv.ownBlock) (hat : pv.ownBlock = some g' ∨ w.heap.size ≤ g') :
    WalkAt B (w'.setCell ⟨W, 1, none⟩ (.slice (some ⟨g', 0, none⟩) (n + 1) cap')) W nv (.slice (some ⟨g', 0, none⟩) (n + 1) cap') iv hs ⟨s.num, s.par ++ [x], s.ins⟩ ext := by
  have hr := h.bag.row 1 pv s.par rfl
  have hWl := lt_heap h.box
  have hbox : w'.heap[W]? = some (.cells #[nv, pv, iv] 65 (0, 0)) := (hg.block W hWl (fun e => ne_type hr h.box (by decide) e.symm rfl)).trans h.box
  have hhdr : w'.ownsRow B 35 1 iv hs.length hs := own_keep h.hdr (fun q hq => hg.block q (h.hdr.lt q hq).2 (fun e => own_apart h.hdr hr (by decide) hq e.symm))
  have hbag := h.bag.app (i := 1) (n := n) rfl hn x hown hg hat
  refine ⟨by rw [set_block _ _ _ _ _ _ hbox]; rfl, h.low, own_keep hhdr (fun q hq => Below.heap_setCell _ _ _ _ ?_), h.len, ?_⟩
  · rintro rfl
    exact ne_type hhdr hbox (by decide) hq rfl
  · exact hbag.other hbox (by decide) 1 _
theorem WalkAt.appins {B : Nat} {w w' : World} {W g' cap' n : Nat} {nv pv iv : Value} {hs : List Value} {s : Wk} {ext : List (Value × List Int)} (h : WalkAt B w W nv pv iv hs s ext) (hn : hs.length = n) (hown : w'.ownsRow B 35 1 (.slice (some ⟨g', 0, none⟩) (n + 1) cap') (n + 1) (hs ++ [.slice none 0 0])) (hg : w.grownBy w' iv.ownBlock) :
    WalkAt B (w'.setCell ⟨W, 2, none⟩ (.slice (some ⟨g', 0, none⟩) (n + 1) cap')) W nv pv (.slice (some ⟨g', 0, none⟩) (n + 1) cap') (hs ++ [.slice none 0 0]) ⟨s.num, s.par, s.ins ++ [[]]⟩ ext := by
  have hWl := lt_heap h.box
  have hbox : w'.heap[W]? = some (.cells #[nv, pv, iv] 65 (0, 0)) := (hg.block W hWl (fun e => ne_type h.hdr h.box (by decide) e.symm rfl)).trans h.box
  have hbag : Bag B w' (wkRows nv pv hs s ext) := h.bag.keep (fun i r hi q hq => hg.block q (h.bag.lt hi hq).2 (fun e => own_apart (h.bag.row i r.1 r.2 hi) h.hdr (by decide) hq e.symm))
  refine ⟨by rw [set_block _ _ _ _ _ _ hbox]; rfl, h.low, ?_, by simp [h.len], ?_⟩
  · rw [List.length_append, hn]
    refine own_keep hown (fun q hq => Below.heap_setCell _ _ _ _ ?_)
    rintro rfl
    exact ne_type hown hbox (by decide) hq rfl
  · have h1 := (hbag.add (Below.refl _ _) (.slice none 0 0) [] (own_nil _ _ _) (fun q hq => by cases hq)).other hbox (by decide) 2 (.slice (some ⟨g', 0, none⟩) (n + 1) cap')
    have e : wkRows nv pv (hs ++ [.slice none 0 0]) ⟨s.num, s.par, s.ins ++ [[]]⟩ ext = wkRows nv pv hs s ext ++ [(.slice none 0 0, [])] := by
      unfold wkRows
      rw [List.zip_append h.len]
      simp
    rw [e]; exact h1
def MeetPost (B W : Nat) (nv : Value) (hs : List Value) (s : Wk) (ext : List (Value × List Int)) (w : World) (e : Ending) (w' : World) : Prop :=
  e = .returned (.tuple #[]) ∧ Below B w w' ∧ ∃ pv' iv', WalkAt B w' W nv pv' iv' (hs ++ [.slice none 0 0]) s ext
set_option maxHeartbeats 4000000 in
set_option maxRecDepth 100000 in
theorem meet_any {B : Nat} {w : World} {W : Nat} {nv pv iv : Value} {hs : List Value} {s : Wk} {ext : List (Value × List Int)} (h : WalkAt B w W nv pv iv hs s ext) (place : Nat) (hp : place < s.num.length) (parent : Int) (hpar : s.par.length ≤ 1000000) (hins : s.ins.length ≤ 1000000) (hnum : s.num.length ≤ 1000000) :
    Calls Try.prog 27 #[.pointer (some ⟨W, 0, none⟩), .int .i64 place, .int .i64 parent] w (MeetPost B W nv hs (s.meet place parent) ext w) := by
  obtain ⟨i0, hi, hz0⟩ := Option.map_eq_some_iff.1 info3
  obtain ⟨h1, h2, h3⟩ : i0.zero = some (.int .i64 0) ∧ i0.size = 1 ∧ i0.bytes = 8 := by simpa using hz0
  have HI := Lib.hid hi; have HZ0 := Lib.hid h1; have HZ1 := Lib.hid h2; have HZ2 := Lib.hid h3
  obtain ⟨i1, hi', hz1⟩ := Option.map_eq_some_iff.1 info35
  obtain ⟨h4, h5, h6⟩ : i1.zero = some (.slice none 0 0) ∧ i1.size = 1 ∧ i1.bytes = 24 := by simpa using hz1
  have HJ := Lib.hid hi'; have HY0 := Lib.hid h4; have HY1 := Lib.hid h5; have HY2 := Lib.hid h6
  clear hi h1 h2 h3 hz0 hi' h4 h5 h6 hz1
  have hn := h.bag.row 0 nv s.num rfl
  have hpw := h.bag.row 1 pv s.par rfl
  obtain ⟨ng, ncap, rfl, hng, hngl, hncap⟩ : ∃ g cap, nv = .slice (some ⟨g, 0, none⟩) s.num.length cap ∧ B ≤ g ∧ g < w.heap.size ∧ s.num.length ≤ cap := by
    rcases own_slice hn with ⟨_, h0⟩ | h0
    · omega
    · exact h0
  obtain ⟨pa, pcap, hpv⟩ : ∃ a cap, pv = .slice a s.par.length cap := by
    rcases own_slice hpw with ⟨h0, h1⟩ | ⟨g, cap, h0, _⟩
    · exact ⟨none, 0, by rw [h0, h1]⟩
    · exact ⟨_, _, h0⟩
  subst hpv
  obtain ⟨ia, icap, hiv⟩ : ∃ a cap, iv = .slice a hs.length cap := by
    rcases own_slice h.hdr with ⟨h0, h1⟩ | ⟨g, cap, h0, _⟩
    · exact ⟨none, 0, by rw [h0, h1]⟩
    · exact ⟨_, _, h0⟩
  subst hiv
  obtain ⟨x, hx⟩ : ∃ x, s.num[place]? = some x := ⟨_, List.getElem?_eq_getElem hp⟩
  have hcell : w.cell? ⟨ng, place, none⟩ = some (.int .i64 x) := own_cell hn (by rw [List.getElem?_map, hx]; rfl)
  have hfz : w.frozen? ⟨ng, place, none⟩ = false := by
    obtain ⟨cs, hcs⟩ := own_type hn rfl
    exact Lib.frozen_of_heap hcs place
  obtain ⟨⟨c0, c1, c2⟩, hf, hWl⟩ := wbox h.box
  have hpi : (place : Int) < (s.num.length : Int) := by omega
  have HW := Lib.hid h
  clear h hn hpw
  go_enter Try.func27, Try.ntmps27
  go_wp2_with (fail)
  go_still_tail 11, (by kernel_rfl)
  have hb1 : Below w.heap.size w w.drew := ⟨rfl, rfl, rfl, Nat.le_refl _, fun _ _ => rfl⟩
  have HW1 := Lib.hid (HW.out.below hb1)
  have HB1 := Lib.hid (show Below B w w.drew from ⟨rfl, rfl, rfl, Nat.le_refl _, fun _ _ => rfl⟩)
  have d0 : w.drew.cell? ⟨W, 0, none⟩ = _ := c0
  have d1 : w.drew.cell? ⟨W, 1, none⟩ = _ := c1
  have d3 : w.drew.cell? ⟨ng, place, none⟩ = _ := hcell
  have d4 : w.drew.frozen? ⟨ng, place, none⟩ = false := hfz
  have d5 : ng < w.drew.heap.size := hngl
  change wpList _ _ _ _ _ w.drew
  clear hb1 c0 c1 c2 hf hWl hcell hfz hngl HW
  generalize w.drew = w1 at *
  go_upto_region 1 with (fail)
  have hw2 := HW1.out.putnum (j := place) rfl hp (s.par.length : Int)
  have hb2 := below_put HB1.out hng place (.int .i64 (s.par.length : Int))
  clear d0 d1 d3 d4 d5 HW1 HB1
  generalize (w1.setCell ⟨ng, place, none⟩ (.int .i64 (s.par.length : Int))) = w2 at *
  have HB2 := Lib.hid hb2
  obtain ⟨⟨c0, c1, c2⟩, hf, hWl⟩ := wbox hw2.box
  have f1 := hf 1
  have hBw : B ≤ w2.heap.size := Nat.le_trans hw2.low (Nat.le_of_lt hWl)
  have hbx := (Below.heap_alloc w2 (.cells #[.int .i64 parent] 3 (0, 0)) W hWl).trans hw2.box
  have HW2 := Lib.hid hw2
  clear hw2 hb2 hf hbx
  go_wp2_with (at_builtin; refine wpList_append_lies _ rfl _ _ 35 rfl B 3 i0 (.int .i64 0) 1 8 Try.underlying35 HI.out HZ0.out HZ1.out HZ2.out rfl (by decide) _ s.par.length (s.par.map iV) rfl ?hown ⟨w2.heap.size, 0, none⟩ 1 1 [.int .i64 parent] rfl rfl ?hnews (one_int _) (by decide) ?h63 ?hby ?hba (w2.heap.size + 1) ?hH ?_)
  case hown => exact (HW2.out.below ((Below.refl _ _).alloc (Nat.le_refl _) _)).bag.row 1 _ _ rfl
  case hnews => exact World.news_of_block (cs := #[.int .i64 parent]) (alloc_at _ _ _ rfl)
  case h63 => unfold maxLen; omega
  case hby => omega
  case hba => first | omega | (simp; omega)
  all_goals try (case hH => simp)
  intro b2 cap2 w4 hown4 hgr4 hat4 hlt4
  have hwa := HW2.out.below ((Below.refl _ _).alloc (Nat.le_refl _) (.cells #[.int .i64 parent] 3 (0, 0)))
  have hr1 := hwa.bag.row 1 _ _ rfl
  have hbx4 := (hgr4.block W (by simp; omega) (fun e => ne_type hr1 hwa.box (by decide) e.symm rfl)).trans hwa.box
  obtain ⟨⟨d0, d1, d2⟩, hf4, hWl4⟩ := wbox hbx4
  have e1 := hf4 1
  have hw5 := hwa.apppar rfl parent hown4 hgr4 (by rcases hat4 with h | h; exact .inl h; exact .inr (by simp; omega))
  have HW5 := Lib.hid hw5
  have hb5 := below_put ((HB2.out.alloc hBw _).grown hgr4 (by simp; omega) (fun k hk => (hr1.lt k hk).1)) HW2.out.low 1 (.slice (some ⟨b2, 0, none⟩) (s.par.length + 1) cap2)
  have HB5 := Lib.hid hb5
  have hBw4 : B ≤ w4.heap.size := Nat.le_trans HW2.out.low (Nat.le_of_lt hWl4)
  have hlh : hs.length ≤ 1000000 := by rw [HW2.out.len]; exact hins
  have f2 := hf4 2
  clear hwa hr1 hbx4 hw5 hf4 c0 c1 c2 f1 hWl hb5 HW2 HB2 hgr4 hat4 hown4
  go_wp2_with (at_builtin; refine wpList_append_lies _ rfl _ _ 22 rfl B 35 i1 (.slice none 0 0) 1 24 Try.underlying22 HJ.out HY0.out HY1.out HY2.out rfl (by decide) _ hs.length hs rfl ?hown ⟨w4.heap.size, 0, none⟩ 1 1 [.slice none 0 0] rfl rfl ?hnews (one_sl none 0 0) (by decide) ?h63 ?hby ?hba (w4.heap.size + 1) ?hH ?_)
  case hown => exact (HW5.out.below ((Below.refl _ _).alloc (Nat.le_refl _) _)).hdr
  all_goals try (case hnews => exact World.news_of_block (cs := #[.slice none 0 0]) (alloc_at _ _ _ (by simp)))
  case h63 => unfold maxLen; omega
  case hby => omega
  case hba => first | omega | (simp; omega)
  all_goals try (case hH => simp)
  intro b3 cap3 w6 hown6 hgr6 hat6 hlt6
  have hwa := HW5.out.below ((Below.refl _ _).alloc (Nat.le_refl _) (.cells #[.slice none 0 0] 35 (0, 0)))
  have hbx6 := (hgr6.block W (by simp; omega) (fun e => ne_type hwa.hdr hwa.box (by decide) e.symm rfl)).trans hwa.box
  obtain ⟨⟨g0, g1, g2⟩, hf6, hWl6⟩ := wbox hbx6
  have e2 := hf6 2
  have hw7 := hwa.appins rfl hown6 hgr6
  have hb7 := below_put ((HB5.out.alloc (by simp; omega) _).grown hgr6 (by simp; omega) (fun k hk => (hwa.hdr.lt k hk).1)) HW5.out.low 2 (.slice (some ⟨b3, 0, none⟩) (hs.length + 1) cap3)
  have HW7 := Lib.hid hw7
  have HB7 := Lib.hid hb7
  clear hwa hbx6 hf6 hw7 hb7 HW5 HB5 hown6 hgr6 hat6 d0 d1 d2 f2 e1
  go_wp2_with (fail)
  go_end0
  exact ⟨rfl, HB7.out, _, _, HW7.out⟩
end Go.Proofs.Ytipongpgmbhpkaa
