/-
  dom: the walk's way (goes).
-/
import Derived.Test.YtipongpgmbhpkaaDomA
namespace Go.Proofs.Ytipongpgmbhpkaa
open Go.ChangeShapes Go.WideShapes Go.ChangeAt Go.RowKit
open Go.Proofs.Ytipongpgmbhpkaa.RegInv
set_option linter.unusedVariables false

def Wk.ok (s : Wk) : Prop := (∀ x ∈ s.num, x = -1 ∨ (0 ≤ x ∧ x < (s.par.length : Int))) ∧ s.ins.length = s.par.length
def Wk.way (s : Wk) (v : Nat) (x : Int) : Wk := ⟨s.num, s.par, s.ins.set v (s.ins.getD v [] ++ [x])⟩
def Wk.isNew (s : Wk) (t : Nat) : Bool := decide (s.num.getD t 0 = -1)
def Wk.goes (s : Wk) (f t : Nat) : Wk :=
  if s.isNew t then (s.meet t (s.num.getD f 0)).way s.par.length ((s.num.set t (s.par.length : Int)).getD f 0) else s.way (s.num.getD t 0).toNat (s.num.getD f 0)

theorem wkRows_in (nv pv : Value) (hs : List Value) (s : Wk) (ext : List (Value × List Int)) (v : Nat) : (wkRows nv pv hs s ext)[2 + ext.length + v]? = (hs.zip s.ins)[v]? := by
  unfold wkRows
  rw [show 2 + ext.length + v = (ext.length + v) + 1 + 1 by omega, List.getElem?_cons_succ, List.getElem?_cons_succ, List.getElem?_append_right (by omega), Nat.add_sub_cancel_left]
theorem zip_set' {α β : Type} (a : α) (b : β) : ∀ (l : List α) (l' : List β) (v : Nat), (l.set v a).zip (l'.set v b) = (l.zip l').set v (a, b)
  | [], _, _ => by simp
  | _ :: _, [], v => by cases v <;> simp
  | x :: xs, y :: ys, 0 => by simp
  | x :: xs, y :: ys, v + 1 => by simp [zip_set' a b xs ys v]
theorem wkRows_set (nv pv : Value) (hs : List Value) (s : Wk) (ext : List (Value × List Int)) (v : Nat) (h : Value) (xs : List Int) : (wkRows nv pv hs s ext).set (2 + ext.length + v) (h, xs) = wkRows nv pv (hs.set v h) ⟨s.num, s.par, s.ins.set v xs⟩ ext := by
  unfold wkRows
  rw [show 2 + ext.length + v = (ext.length + v) + 1 + 1 by omega, List.set_cons_succ, List.set_cons_succ, List.set_append_right (h := by omega), Nat.add_sub_cancel_left, zip_set']
theorem WalkAt.inrow {B : Nat} {w : World} {W : Nat} {nv pv iv : Value} {hs : List Value} {s : Wk} {ext : List (Value × List Int)} (h : WalkAt B w W nv pv iv hs s ext) {v : Nat} {hv : Value} {xs : List Int} (hh : hs[v]? = some hv) (hx : s.ins[v]? = some xs) : (wkRows nv pv hs s ext)[2 + ext.length + v]? = some (hv, xs) := by
  rw [wkRows_in]; exact (List.getElem?_zip_eq_some (z := (hv, xs))).2 ⟨hh, hx⟩
theorem WalkAt.appin {B : Nat} {w w' : World} {W g' cap' gi n icap v : Nat} {nv pv hv : Value} {hs : List Value} {s : Wk} {xs : List Int} {ext : List (Value × List Int)} (h : WalkAt B w W nv pv (.slice (some ⟨gi, 0, none⟩) n icap) hs s ext) (hn : hs.length = n) (hh : hs[v]? = some hv) (hx : s.ins[v]? = some xs) (x : Int)
    (hown : w'.ownsRow B 3 1 (.slice (some ⟨g', 0, none⟩) (xs.length + 1) cap') (xs.length + 1) (xs.map iV ++ [.int .i64 x])) (hg : w.grownBy w' hv.ownBlock) (hat : hv.ownBlock = some g' ∨ w.heap.size ≤ g') :
    WalkAt B (w'.setCell ⟨gi, v, none⟩ (.slice (some ⟨g', 0, none⟩) (xs.length + 1) cap')) W nv pv (.slice (some ⟨gi, 0, none⟩) n icap) (hs.set v (.slice (some ⟨g', 0, none⟩) (xs.length + 1) cap')) (s.way v x) ext := by
  subst hn
  have hvl : v < hs.length := (List.getElem?_eq_some_iff.1 hh).1
  have hk := h.inrow hh hx
  have hr := h.bag.row _ _ _ hk
  have hWl := lt_heap h.box
  have hbox : w'.heap[W]? = some (.cells #[nv, pv, .slice (some ⟨gi, 0, none⟩) hs.length icap] 65 (0, 0)) := (hg.block W hWl (fun e => ne_type hr h.box (by decide) e.symm rfl)).trans h.box
  have hhdr : w'.ownsRow B 35 1 (.slice (some ⟨gi, 0, none⟩) hs.length icap) hs.length hs := own_keep h.hdr (fun q hq => hg.block q (h.hdr.lt q hq).2 (fun e => own_apart h.hdr hr (by decide) hq e.symm))
  have hbag := h.bag.app hk rfl x hown hg hat
  obtain ⟨cs, hcs⟩ := own_type hhdr (q := gi) rfl
  have hget : s.ins.getD v [] = xs := by rw [List.getD_eq_getElem?_getD, hx]; rfl
  have h0 : W ≠ gi := ne_type hhdr hbox (by decide) rfl
  refine ⟨?_, h.low, ?_, ?_, ?_⟩
  · exact (Below.heap_setCell _ _ _ _ h0).trans hbox
  · rw [List.length_set]
    exact own_put hhdr hvl _
  · unfold Wk.way; simp [h.len]
  · have := hbag.other hcs (by decide) v (.slice (some ⟨g', 0, none⟩) (xs.length + 1) cap')
    rw [wkRows_set] at this
    unfold Wk.way
    rw [hget]
    exact this
/-- The region's values. -/
def gV (W gi hl icap ng nl ncap v f m : Nat) (hv : Value) (x : Int) (g : Nat × Nat × Nat) : List Value :=
  [.pointer (some ⟨W, 0, none⟩), .pointer (some ⟨W, 0, none⟩), .pointer (some ⟨W, 2, none⟩), .slice (some ⟨gi, 0, none⟩) hl icap, .int .i64 v, .pointer (some ⟨W, 0, none⟩), .pointer (some ⟨W, 0, none⟩), .pointer (some ⟨W, 2, none⟩), .slice (some ⟨gi, 0, none⟩) hl icap, .int .i64 v, .pointer (some ⟨gi, v, none⟩), hv,
    .pointer (some ⟨W, 0, none⟩), .pointer (some ⟨W, 0, none⟩), .pointer (some ⟨W, 0, none⟩), .slice (some ⟨ng, 0, none⟩) nl ncap, .int .i64 f, .pointer (some ⟨ng, f, none⟩), .int .i64 x, .slice (some ⟨g.1, 0, none⟩) 1 1, .slice (some ⟨g.2.1, 0, none⟩) (m + 1) g.2.2, .pointer (some ⟨gi, v, none⟩), undef]
structure GI (B : Nat) (w1 : World) (hv : Value) (xs : List Int) (x : Int) (gi v : Nat) (L : Nat → Bool) (g : Nat × Nat × Nat) (w : World) : Prop where
  held : L 22 = false → w1.grownBy w hv.ownBlock
  pre : L 20 = false → Below w1.heap.size w1 w
  made : L 19 = true → L 20 = false → w1.heap.size ≤ g.1 ∧ w.heap[g.1]? = some (.cells #[.int .i64 x] 3 (0, 0))
  done : L 20 = true → L 22 = false → w.ownsRow B 3 1 (.slice (some ⟨g.2.1, 0, none⟩) (xs.length + 1) g.2.2) (xs.length + 1) (xs.map iV ++ [.int .i64 x]) ∧ (hv.ownBlock = some g.2.1 ∨ w1.heap.size ≤ g.2.1)
  fin : L 22 = true → ∃ w2, w1.grownBy w2 hv.ownBlock ∧ w2.ownsRow B 3 1 (.slice (some ⟨g.2.1, 0, none⟩) (xs.length + 1) g.2.2) (xs.length + 1) (xs.map iV ++ [.int .i64 x]) ∧ (hv.ownBlock = some g.2.1 ∨ w1.heap.size ≤ g.2.1) ∧ w = w2.setCell ⟨gi, v, none⟩ (.slice (some ⟨g.2.1, 0, none⟩) (xs.length + 1) g.2.2)
theorem GI.skip {B : Nat} {w1 : World} {hv : Value} {xs : List Int} {x : Int} {gi v : Nat} {L : Nat → Bool} {g : Nat × Nat × Nat} {w : World} (h : GI B w1 hv xs x gi v L g w) {i : Nat} (hi : 19 ≠ i ∧ 20 ≠ i ∧ 22 ≠ i) : GI B w1 hv xs x gi v (setL L i) g w := by
  obtain ⟨h1, h2, h3, h4, h5⟩ := h
  obtain ⟨a, b, c⟩ := hi
  refine ⟨?_, ?_, ?_, ?_, ?_⟩
  · rw [setL_ne c]; exact h1
  · rw [setL_ne b]; exact h2
  · rw [setL_ne a, setL_ne b]; exact h3
  · rw [setL_ne b, setL_ne c]; exact h4
  · rw [setL_ne c]; exact h5
theorem grown_of_below {w w' : World} (r : Option Nat) (h : Below w.heap.size w w') : w.grownBy w' r := ⟨h.os, h.tape, h.output, h.size, fun k hk _ => h.block k hk⟩
theorem grown_after {w w1 w' : World} {r : Option Nat} (h : Below w.heap.size w w1) (h' : w1.grownBy w' r) : w.grownBy w' r := ⟨h'.os.trans h.os, h'.tape.trans h.tape, h'.output.trans h.output, Nat.le_trans h.size h'.size, fun k hk hne => (h'.block k (Nat.lt_of_lt_of_le hk h.size) hne).trans (h.block k hk)⟩
def GoesPost (B W : Nat) (nv : Value) (s : Wk) (ext : List (Value × List Int)) (b : Bool) (w : World) (e : Ending) (w' : World) : Prop :=
  e = .returned (.bool b) ∧ Below B w w' ∧ ∃ pv' iv' hs', WalkAt B w' W nv pv' iv' hs' s ext


theorem grown_then {a w w' : World} {r : Option Nat} (h : a.grownBy w r) (h' : Below w.heap.size w w') : a.grownBy w' r := ⟨h'.os.trans h.os, h'.tape.trans h.tape, h'.output.trans h.output, Nat.le_trans h.size h'.size, fun k hk hne => (h'.block k (Nat.lt_of_lt_of_le hk h.size)).trans (h.block k hk hne)⟩
theorem GI.build {B : Nat} {w1 : World} {hv : Value} {xs : List Int} {x : Int} {gi v : Nat} {L : Nat → Bool} {g : Nat × Nat × Nat} {w : World} (h : GI B w1 hv xs x gi v L g w) (h20 : L 20 = false) (h22 : L 22 = false) : GI B w1 hv xs x gi v (setL L 19) (w.heap.size, g.2.1, g.2.2) (w.alloc (.cells #[.int .i64 x] 3 (0, 0))) := by
  have e20 : setL L 19 20 = false := by rw [setL_ne (by decide)]; exact h20
  have e22 : setL L 19 22 = false := by rw [setL_ne (by decide)]; exact h22
  refine ⟨fun _ => grown_then (h.held h22) ((Below.refl _ _).alloc (Nat.le_refl _) _), fun _ => (h.pre h20).alloc (h.pre h20).size _, fun _ _ => ⟨(h.pre h20).size, alloc_at _ _ _ rfl⟩, fun a => (by rw [e20] at a; cases a), fun a => by rw [e22] at a; cases a⟩
theorem GI.append {B : Nat} {w1 : World} {hv : Value} {xs : List Int} {x : Int} {gi v : Nat} {L : Nat → Bool} {g : Nat × Nat × Nat} {w w' : World} (h : GI B w1 hv xs x gi v L g w) (h20 : L 20 = false) (h22 : L 22 = false) {b c : Nat} (hown : w'.ownsRow B 3 1 (.slice (some ⟨b, 0, none⟩) (xs.length + 1) c) (xs.length + 1) (xs.map iV ++ [.int .i64 x])) (hg : w.grownBy w' hv.ownBlock) (hat : hv.ownBlock = some b ∨ b = w.heap.size) : GI B w1 hv xs x gi v (setL L 20) (g.1, b, c) w' := by
  have e22 : setL L 20 22 = false := by rw [setL_ne (by decide)]; exact h22
  refine ⟨fun _ => grown_after (h.pre h20) hg, fun a => (by rw [setL_eq] at a; cases a), fun _ a => (by rw [setL_eq] at a; cases a), fun _ _ => ⟨hown, ?_⟩, fun a => by rw [e22] at a; cases a⟩
  rcases hat with hat | hat
  · exact .inl hat
  · exact .inr (by show _ ≤ b; rw [hat]; exact (h.pre h20).size)
theorem GI.store {B : Nat} {w1 : World} {hv : Value} {xs : List Int} {x : Int} {gi v : Nat} {L : Nat → Bool} {g : Nat × Nat × Nat} {w : World} (h : GI B w1 hv xs x gi v L g w) (h20 : L 20 = true) (h22 : L 22 = false) : GI B w1 hv xs x gi v (setL L 22) g (w.setCell ⟨gi, v, none⟩ (.slice (some ⟨g.2.1, 0, none⟩) (xs.length + 1) g.2.2)) := by
  have e20 : setL L 22 20 = true := by rw [setL_ne (by decide)]; exact h20
  refine ⟨fun a => (by rw [setL_eq] at a; cases a), fun a => (by rw [e20] at a; cases a), fun _ a => (by rw [e20] at a; cases a), fun _ a => (by rw [setL_eq] at a; cases a), fun _ => ⟨w, h.held h22, (h.done h20 h22).1, (h.done h20 h22).2, rfl⟩⟩
set_option maxHeartbeats 4000000 in
set_option maxRecDepth 100000 in
theorem goes_old {B : Nat} {w : World} {W : Nat} {nv pv iv : Value} {hs : List Value} {s : Wk} {ext : List (Value × List Int)} (h : WalkAt B w W nv pv iv hs s ext) (hok : s.ok) (f t v : Nat) (xf : Int) (hf : s.num[f]? = some xf) (ht : s.num[t]? = some (v : Int)) (hnum : s.num.length ≤ 1000000) (hpar : s.par.length ≤ 1000000) (hrow : ∀ r ∈ s.ins, r.length ≤ 1000000000) :
    Calls Try.prog 28 #[.pointer (some ⟨W, 0, none⟩), .int .i64 f, .int .i64 t] w (GoesPost B W nv (s.way v xf) ext false w) := by
  obtain ⟨i0, hi, hz0⟩ := Option.map_eq_some_iff.1 info3
  obtain ⟨h1, h2, h3⟩ : i0.zero = some (.int .i64 0) ∧ i0.size = 1 ∧ i0.bytes = 8 := by simpa using hz0
  have HI := Lib.hid hi; have HZ0 := Lib.hid h1; have HZ1 := Lib.hid h2; have HZ2 := Lib.hid h3
  clear hi h1 h2 h3 hz0
  have hfl : f < s.num.length := (List.getElem?_eq_some_iff.1 hf).1
  have htl : t < s.num.length := (List.getElem?_eq_some_iff.1 ht).1
  have hvl : v < s.ins.length := by
    have := hok.1 _ (List.mem_of_getElem? ht)
    have := hok.2
    omega
  have hn := h.bag.row 0 nv s.num rfl
  obtain ⟨ng, ncap, rfl, hng, hngl, hncap⟩ : ∃ g cap, nv = .slice (some ⟨g, 0, none⟩) s.num.length cap ∧ B ≤ g ∧ g < w.heap.size ∧ s.num.length ≤ cap := by
    rcases own_slice hn with ⟨_, h0⟩ | h0
    · omega
    · exact h0
  obtain ⟨⟨c0, c1, c2⟩, hfz, hWl⟩ := wbox h.box
  have ct : w.cell? ⟨ng, t, none⟩ = some (.int .i64 (v : Int)) := own_cell hn (by rw [List.getElem?_map, ht]; rfl)
  have cf : w.cell? ⟨ng, f, none⟩ = some (.int .i64 xf) := own_cell hn (by rw [List.getElem?_map, hf]; rfl)
  have hfi : (f : Int) < (s.num.length : Int) := by omega
  have hti : (t : Int) < (s.num.length : Int) := by omega
  have hv1 : decide ((v : Int) = -1) = false := by simp
  have HB1 := Lib.hid (Below.refl B w)
  have hhl : hs.length = s.ins.length := h.len
  obtain ⟨gi, icap, hiv, hgi, hgil, hgic⟩ : ∃ g cap, iv = .slice (some ⟨g, 0, none⟩) hs.length cap ∧ B ≤ g ∧ g < w.heap.size ∧ hs.length ≤ cap := by
    rcases own_slice h.hdr with ⟨_, h0⟩ | h0
    · omega
    · exact h0
  subst hiv
  obtain ⟨hv, hh⟩ : ∃ u, hs[v]? = some u := ⟨_, List.getElem?_eq_getElem (by omega)⟩
  obtain ⟨xs, hx⟩ : ∃ u, s.ins[v]? = some u := ⟨_, List.getElem?_eq_getElem hvl⟩
  have hrv := h.bag.row _ _ _ (h.inrow hh hx)
  obtain ⟨ha, hcap, hvv⟩ : ∃ a cap, hv = .slice a xs.length cap := by
    rcases own_slice hrv with ⟨h0, h1⟩ | ⟨g, cap, h0, _⟩
    · exact ⟨none, 0, by rw [h0, h1]⟩
    · exact ⟨_, _, h0⟩
  have ch : w.cell? ⟨gi, v, none⟩ = some hv := own_cell h.hdr hh
  have hvi : (v : Int) < (hs.length : Int) := by omega
  have nW : some W ≠ hv.ownBlock := fun e => ne_type hrv h.box (by decide) e.symm rfl
  have nG : some gi ≠ hv.ownBlock := fun e => own_apart h.hdr hrv (by decide) (q := gi) rfl e.symm
  have nN : some ng ≠ hv.ownBlock := fun e => h.bag.apart 0 (2 + ext.length + v) _ _ rfl (h.inrow hh hx) (by omega) ng rfl e.symm
  have hfg : w.frozen? ⟨gi, v, none⟩ = false := by
    obtain ⟨cs, hcs⟩ := own_type h.hdr (q := gi) rfl
    exact Lib.frozen_of_heap hcs v
  have hxl : xs.length ≤ 1000000000 := hrow _ (List.mem_of_getElem? hx)
  subst hvv
  have HW := Lib.hid h
  have HRV := Lib.hid hrv
  have hBw : B ≤ w.heap.size := by omega
  have HH := Lib.hid hh; have HX := Lib.hid hx
  have NW := Lib.hid nW; have NG := Lib.hid nG; have NN := Lib.hid nN
  clear h hn hfz hok hrow hf ht c1 hrv hh hx nW nG nN hhl
  go_enter Try.func28, Try.ntmps28
  go_wp2_with (fail)
  refine wp_region_by (by kernel_rfl) (gV W gi hs.length icap ng s.num.length ncap v f xs.length (.slice ha xs.length hcap) xf) (GI B w (.slice ha xs.length hcap) xs xf gi v) (0, 0, 0) (fun _ => rfl) (by kernel_rfl) ?h0 ?steps ?done
  case h0 => exact ⟨fun _ => grown_of_below _ ⟨rfl, rfl, rfl, Nat.le_refl _, fun _ _ => rfl⟩, fun _ => ⟨rfl, rfl, rfl, Nat.le_refl _, fun _ _ => rfl⟩, fun a => by simp at a, fun a => by simp at a, fun a => by simp at a⟩
  case done =>
    intro g w' hI
    obtain ⟨w2, hg, hown, hat, rfl⟩ := hI.fin rfl
    have hw2 := HW.out.appin rfl HH.out HX.out xf hown hg hat
    have hb2 := below_put (HB1.out.grown hg hBw (fun k hk => (HRV.out.lt k hk).1)) hgi v (.slice (some ⟨g.2.1, 0, none⟩) (xs.length + 1) g.2.2)
    have HW2 := Lib.hid hw2; have HB2 := Lib.hid hb2
    clear hw2 hb2 hI hg hown hat
    simp only [full, gV, Act.put, List.setIfInBounds_toArray, List.set_cons_zero, List.set_cons_succ]
    go_wp2_with (fail)
    go_ret
    exact ⟨rfl, HB2.out, _, _, _, HW2.out⟩
  case steps =>
    refine (Steps.cons (k' := 1) ?s0 rfl (Steps.cons (k' := 2) ?s1 rfl (Steps.cons (k' := 3) ?s2 rfl (Steps.cons (k' := 4) ?s3 rfl (Steps.cons (k' := 5) ?s4 rfl (Steps.cons (k' := 6) ?s5 rfl (Steps.cons (k' := 7) ?s6 rfl (Steps.cons (k' := 8) ?s7 rfl (Steps.cons (k' := 9) ?s8 rfl (Steps.cons (k' := 10) ?s9 rfl (Steps.cons (k' := 11) ?s10 rfl (Steps.cons (k' := 12) ?s11 rfl (Steps.cons (k' := 13) ?s12 rfl (Steps.cons (k' := 14) ?s13 rfl (Steps.cons (k' := 15) ?s14 rfl (Steps.cons (k' := 16) ?s15 rfl (Steps.cons (k' := 17) ?s16 rfl (Steps.cons (k' := 18) ?s17 rfl (Steps.cons (k' := 19) ?s18 rfl (Steps.cons (k' := 20) ?s19 rfl (Steps.cons (k' := 21) ?s20 rfl (Steps.cons (k' := 22) ?s21 rfl (Steps.cons (k' := 23) ?s22 rfl Steps.nil)))))))))))))))))))))))
    case s0 =>
      intro L g w' hL hd hcl hI K hK
      simp only [full, gV, Act.put, List.setIfInBounds_toArray, List.set_cons_zero, List.set_cons_succ] at hK ⊢
      have HL := Lib.hid hL; have HD := Lib.hid hd; have HC := Lib.hid hcl; have HJ := Lib.hid hI; have HK := Lib.hid hK
      clear hL hd hcl hI hK
      go_simp
      exact HK.out _ _ g rfl (fun _ _ => rfl) (HJ.out.skip (by decide))
    case s1 =>
      intro L g w' hL hd hcl hI K hK
      simp only [full, gV, Act.put, List.setIfInBounds_toArray, List.set_cons_zero, List.set_cons_succ] at hK ⊢
      have HL := Lib.hid hL; have HD := Lib.hid hd; have HC := Lib.hid hcl; have HJ := Lib.hid hI; have HK := Lib.hid hK
      clear hL hd hcl hI hK
      go_simp
      exact HK.out _ _ g rfl (fun _ _ => rfl) (HJ.out.skip (by decide))
    case s2 =>
      intro L g w' hL hd hcl hI K hK
      simp only [full, gV, Act.put, List.setIfInBounds_toArray, List.set_cons_zero, List.set_cons_succ] at hK ⊢
      have HL := Lib.hid hL; have HD := Lib.hid hd; have HC := Lib.hid hcl; have HJ := Lib.hid hI; have HK := Lib.hid hK
      clear hL hd hcl hI hK
      go_simp
      exact HK.out _ _ g rfl (fun _ _ => rfl) (HJ.out.skip (by decide))
    case s3 =>
      intro L g w' hL hd hcl hI K hK
      simp only [full, gV, Act.put, List.setIfInBounds_toArray, List.set_cons_zero, List.set_cons_succ] at hK ⊢
      have l21 : L 21 = false := hcl.not 21 3 (by kernel_rfl) hL
      have l22 : L 22 = false := hcl.not 22 21 (by kernel_rfl) l21
      have hg := hI.held l22
      have z := (World.cell?_of_block (hg.block W hWl NW.out)).trans c2
      clear hg
      have HL := Lib.hid hL; have HD := Lib.hid hd; have HC := Lib.hid hcl; have HJ := Lib.hid hI; have HK := Lib.hid hK
      clear hL hd hcl hI hK
      go_simp
      exact HK.out _ _ g rfl (fun _ _ => rfl) (HJ.out.skip (by decide))
    case s4 =>
      intro L g w' hL hd hcl hI K hK
      simp only [full, gV, Act.put, List.setIfInBounds_toArray, List.set_cons_zero, List.set_cons_succ] at hK ⊢
      have HL := Lib.hid hL; have HD := Lib.hid hd; have HC := Lib.hid hcl; have HJ := Lib.hid hI; have HK := Lib.hid hK
      clear hL hd hcl hI hK
      go_simp
      exact HK.out _ _ g rfl (fun _ _ => rfl) (HJ.out.skip (by decide))
    case s5 =>
      intro L g w' hL hd hcl hI K hK
      simp only [full, gV, Act.put, List.setIfInBounds_toArray, List.set_cons_zero, List.set_cons_succ] at hK ⊢
      have HL := Lib.hid hL; have HD := Lib.hid hd; have HC := Lib.hid hcl; have HJ := Lib.hid hI; have HK := Lib.hid hK
      clear hL hd hcl hI hK
      go_simp
      exact HK.out _ _ g rfl (fun _ _ => rfl) (HJ.out.skip (by decide))
    case s6 =>
      intro L g w' hL hd hcl hI K hK
      simp only [full, gV, Act.put, List.setIfInBounds_toArray, List.set_cons_zero, List.set_cons_succ] at hK ⊢
      have HL := Lib.hid hL; have HD := Lib.hid hd; have HC := Lib.hid hcl; have HJ := Lib.hid hI; have HK := Lib.hid hK
      clear hL hd hcl hI hK
      go_simp
      exact HK.out _ _ g rfl (fun _ _ => rfl) (HJ.out.skip (by decide))
    case s7 =>
      intro L g w' hL hd hcl hI K hK
      simp only [full, gV, Act.put, List.setIfInBounds_toArray, List.set_cons_zero, List.set_cons_succ] at hK ⊢
      have HL := Lib.hid hL; have HD := Lib.hid hd; have HC := Lib.hid hcl; have HJ := Lib.hid hI; have HK := Lib.hid hK
      clear hL hd hcl hI hK
      go_simp
      exact HK.out _ _ g rfl (fun _ _ => rfl) (HJ.out.skip (by decide))
    case s8 =>
      intro L g w' hL hd hcl hI K hK
      simp only [full, gV, Act.put, List.setIfInBounds_toArray, List.set_cons_zero, List.set_cons_succ] at hK ⊢
      have l10 : L 10 = false := hcl.not 10 8 (by kernel_rfl) hL
      have l11 : L 11 = false := hcl.not 11 10 (by kernel_rfl) l10
      have l20 : L 20 = false := hcl.not 20 11 (by kernel_rfl) l11
      have l22 : L 22 = false := hcl.not 22 20 (by kernel_rfl) l20
      have hg := hI.held l22
      have z := (World.cell?_of_block (hg.block W hWl NW.out)).trans c2
      clear hg
      have HL := Lib.hid hL; have HD := Lib.hid hd; have HC := Lib.hid hcl; have HJ := Lib.hid hI; have HK := Lib.hid hK
      clear hL hd hcl hI hK
      go_simp
      exact HK.out _ _ g rfl (fun _ _ => rfl) (HJ.out.skip (by decide))
    case s9 =>
      intro L g w' hL hd hcl hI K hK
      simp only [full, gV, Act.put, List.setIfInBounds_toArray, List.set_cons_zero, List.set_cons_succ] at hK ⊢
      have HL := Lib.hid hL; have HD := Lib.hid hd; have HC := Lib.hid hcl; have HJ := Lib.hid hI; have HK := Lib.hid hK
      clear hL hd hcl hI hK
      go_simp
      exact HK.out _ _ g rfl (fun _ _ => rfl) (HJ.out.skip (by decide))
    case s10 =>
      intro L g w' hL hd hcl hI K hK
      simp only [full, gV, Act.put, List.setIfInBounds_toArray, List.set_cons_zero, List.set_cons_succ] at hK ⊢
      have HL := Lib.hid hL; have HD := Lib.hid hd; have HC := Lib.hid hcl; have HJ := Lib.hid hI; have HK := Lib.hid hK
      clear hL hd hcl hI hK
      go_simp
      exact HK.out _ _ g rfl (fun _ _ => rfl) (HJ.out.skip (by decide))
    case s11 =>
      intro L g w' hL hd hcl hI K hK
      simp only [full, gV, Act.put, List.setIfInBounds_toArray, List.set_cons_zero, List.set_cons_succ] at hK ⊢
      have l20 : L 20 = false := hcl.not 20 11 (by kernel_rfl) hL
      have l22 : L 22 = false := hcl.not 22 20 (by kernel_rfl) l20
      have hg := hI.held l22
      have z := (World.cell?_of_block (hg.block gi hgil NG.out)).trans ch
      clear hg
      have HL := Lib.hid hL; have HD := Lib.hid hd; have HC := Lib.hid hcl; have HJ := Lib.hid hI; have HK := Lib.hid hK
      clear hL hd hcl hI hK
      go_simp
      exact HK.out _ _ g rfl (fun _ _ => rfl) (HJ.out.skip (by decide))
    case s12 =>
      intro L g w' hL hd hcl hI K hK
      simp only [full, gV, Act.put, List.setIfInBounds_toArray, List.set_cons_zero, List.set_cons_succ] at hK ⊢
      have HL := Lib.hid hL; have HD := Lib.hid hd; have HC := Lib.hid hcl; have HJ := Lib.hid hI; have HK := Lib.hid hK
      clear hL hd hcl hI hK
      go_simp
      exact HK.out _ _ g rfl (fun _ _ => rfl) (HJ.out.skip (by decide))
    case s13 =>
      intro L g w' hL hd hcl hI K hK
      simp only [full, gV, Act.put, List.setIfInBounds_toArray, List.set_cons_zero, List.set_cons_succ] at hK ⊢
      have HL := Lib.hid hL; have HD := Lib.hid hd; have HC := Lib.hid hcl; have HJ := Lib.hid hI; have HK := Lib.hid hK
      clear hL hd hcl hI hK
      go_simp
      exact HK.out _ _ g rfl (fun _ _ => rfl) (HJ.out.skip (by decide))
    case s14 =>
      intro L g w' hL hd hcl hI K hK
      simp only [full, gV, Act.put, List.setIfInBounds_toArray, List.set_cons_zero, List.set_cons_succ] at hK ⊢
      have HL := Lib.hid hL; have HD := Lib.hid hd; have HC := Lib.hid hcl; have HJ := Lib.hid hI; have HK := Lib.hid hK
      clear hL hd hcl hI hK
      go_simp
      exact HK.out _ _ g rfl (fun _ _ => rfl) (HJ.out.skip (by decide))
    case s15 =>
      intro L g w' hL hd hcl hI K hK
      simp only [full, gV, Act.put, List.setIfInBounds_toArray, List.set_cons_zero, List.set_cons_succ] at hK ⊢
      have l17 : L 17 = false := hcl.not 17 15 (by kernel_rfl) hL
      have l18 : L 18 = false := hcl.not 18 17 (by kernel_rfl) l17
      have l19 : L 19 = false := hcl.not 19 18 (by kernel_rfl) l18
      have l20 : L 20 = false := hcl.not 20 19 (by kernel_rfl) l19
      have l22 : L 22 = false := hcl.not 22 20 (by kernel_rfl) l20
      have hg := hI.held l22
      have z := (World.cell?_of_block (hg.block W hWl NW.out)).trans c0
      clear hg
      have HL := Lib.hid hL; have HD := Lib.hid hd; have HC := Lib.hid hcl; have HJ := Lib.hid hI; have HK := Lib.hid hK
      clear hL hd hcl hI hK
      go_simp
      exact HK.out _ _ g rfl (fun _ _ => rfl) (HJ.out.skip (by decide))
    case s16 =>
      intro L g w' hL hd hcl hI K hK
      simp only [full, gV, Act.put, List.setIfInBounds_toArray, List.set_cons_zero, List.set_cons_succ] at hK ⊢
      have HL := Lib.hid hL; have HD := Lib.hid hd; have HC := Lib.hid hcl; have HJ := Lib.hid hI; have HK := Lib.hid hK
      clear hL hd hcl hI hK
      go_simp
      exact HK.out _ _ g rfl (fun _ _ => rfl) (HJ.out.skip (by decide))
    case s17 =>
      intro L g w' hL hd hcl hI K hK
      simp only [full, gV, Act.put, List.setIfInBounds_toArray, List.set_cons_zero, List.set_cons_succ] at hK ⊢
      have HL := Lib.hid hL; have HD := Lib.hid hd; have HC := Lib.hid hcl; have HJ := Lib.hid hI; have HK := Lib.hid hK
      clear hL hd hcl hI hK
      go_simp
      exact HK.out _ _ g rfl (fun _ _ => rfl) (HJ.out.skip (by decide))
    case s18 =>
      intro L g w' hL hd hcl hI K hK
      simp only [full, gV, Act.put, List.setIfInBounds_toArray, List.set_cons_zero, List.set_cons_succ] at hK ⊢
      have l19 : L 19 = false := hcl.not 19 18 (by kernel_rfl) hL
      have l20 : L 20 = false := hcl.not 20 19 (by kernel_rfl) l19
      have l22 : L 22 = false := hcl.not 22 20 (by kernel_rfl) l20
      have hg := hI.held l22
      have z := (World.cell?_of_block (hg.block ng hngl NN.out)).trans cf
      clear hg
      have HL := Lib.hid hL; have HD := Lib.hid hd; have HC := Lib.hid hcl; have HJ := Lib.hid hI; have HK := Lib.hid hK
      clear hL hd hcl hI hK
      go_simp
      exact HK.out _ _ g rfl (fun _ _ => rfl) (HJ.out.skip (by decide))
    case s19 =>
      intro L g w' hL hd hcl hI K hK
      simp only [full, gV, Act.put, List.setIfInBounds_toArray, List.set_cons_zero, List.set_cons_succ] at hK ⊢
      have l20 : L 20 = false := hcl.not 20 19 (by kernel_rfl) hL
      have l22 : L 22 = false := hcl.not 22 20 (by kernel_rfl) l20
      have HL := Lib.hid hL; have HD := Lib.hid hd; have HC := Lib.hid hcl; have HJ := Lib.hid hI; have HK := Lib.hid hK
      clear hL hd hcl hI hK
      go_simp
      exact HK.out _ _ (w'.heap.size, g.2.1, g.2.2) rfl (set_get 19 HL.out rfl) (HJ.out.build l20 l22)
    case s20 =>
      intro L g w' hL hd hcl hI K hK
      simp only [full, gV, Act.put, List.setIfInBounds_toArray, List.set_cons_zero, List.set_cons_succ] at hK ⊢
      have l22 : L 22 = false := hcl.not 22 20 (by kernel_rfl) hL
      have l19 : L 19 = true := dep_of hd 19 (by kernel_rfl)
      have HL := Lib.hid hL; have HD := Lib.hid hd; have HC := Lib.hid hcl; have HJ := Lib.hid hI; have HK := Lib.hid hK
      clear hL hd hcl hI hK
      rw [if_pos (by rfl)]
      refine wp_append_lies _ (.tmp 46) (.tmp 54) 35 ?eo B 3 i0 (.int .i64 0) 1 8 Try.underlying35 HI.out HZ0.out HZ1.out HZ2.out rfl (by decide) (.slice ha xs.length hcap) xs.length (xs.map iV) ?e1 ?hown ⟨g.1, 0, none⟩ 1 1 [.int .i64 xf] ?e2 rfl ?hnews (one_int _) (by decide) ?h63 ?hby ?hba w'.heap.size rfl ?_
      case eo => rfl
      case e1 => rfl
      case e2 => rfl
      case hown => exact own_keep HRV.out (fun q hq => (HJ.out.pre HL.out).block q (HRV.out.lt q hq).2)
      case hnews => exact World.news_of_block (cs := #[.int .i64 xf]) (HJ.out.made l19 HL.out).2
      case h63 => unfold maxLen; omega
      case hby => omega
      case hba => exact Nat.le_trans hBw (HJ.out.pre HL.out).size
      intro b2 cap2 w4 hown4 hgr4 hat4 hlt4
      simp only [Act.put, List.setIfInBounds_toArray, List.set_cons_zero, List.set_cons_succ]
      exact HK.out _ _ (g.1, b2, cap2) rfl (set_get 20 HL.out rfl) (HJ.out.append HL.out l22 hown4 hgr4 hat4)
    case s21 =>
      intro L g w' hL hd hcl hI K hK
      simp only [full, gV, Act.put, List.setIfInBounds_toArray, List.set_cons_zero, List.set_cons_succ] at hK ⊢
      have HL := Lib.hid hL; have HD := Lib.hid hd; have HC := Lib.hid hcl; have HJ := Lib.hid hI; have HK := Lib.hid hK
      clear hL hd hcl hI hK
      go_simp
      exact HK.out _ _ g rfl (fun _ _ => rfl) (HJ.out.skip (by decide))
    case s22 =>
      intro L g w' hL hd hcl hI K hK
      simp only [full, gV, Act.put, List.setIfInBounds_toArray, List.set_cons_zero, List.set_cons_succ] at hK ⊢
      have l20 : L 20 = true := dep_of hd 20 (by kernel_rfl)
      have hg := hI.held hL
      have z := (World.frozen?_of_block (hg.block gi hgil NG.out)).trans hfg
      have z2 := Nat.lt_of_lt_of_le hgil hg.size
      have z3 := (World.cell?_of_block (hg.block gi hgil NG.out)).trans ch
      clear hg
      have HL := Lib.hid hL; have HD := Lib.hid hd; have HC := Lib.hid hcl; have HJ := Lib.hid hI; have HK := Lib.hid hK
      clear hL hd hcl hI hK
      go_simp
      exact HK.out _ _ g rfl (fun _ _ => rfl) (HJ.out.store l20 HL.out)
end Go.Proofs.Ytipongpgmbhpkaa
