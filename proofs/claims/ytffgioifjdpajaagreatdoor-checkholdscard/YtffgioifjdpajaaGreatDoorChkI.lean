/-
  The checker: let.
-/
import Derived.Test.YtffgioifjdpajaaGreatDoorChkH
namespace Go.Proofs.YtffgioifjdpajaaGreatDoor
open Go.ChangeShapes Go.WideShapes Go.ChangeAt Go.RowKit
set_option linter.unusedVariables false

/-! What the checker of expressions leaves alone. -/
def SameK (k k' : Ck) : Prop := k'.gs = k.gs ∧ k'.fs = k.fs ∧ k'.gm = k.gm ∧ k'.fm = k.fm ∧ k'.lm = k.lm
theorem SameK.refl (k : Ck) : SameK k k := ⟨rfl, rfl, rfl, rfl, rfl⟩
theorem SameK.trans {a b c : Ck} (h : SameK a b) (i : SameK b c) : SameK a c := ⟨i.1.trans h.1, i.2.1.trans h.2.1, i.2.2.1.trans h.2.2.1, i.2.2.2.1.trans h.2.2.2.1, i.2.2.2.2.trans h.2.2.2.2⟩
theorem same_fail (k : Ck) (e l c : Int) : SameK k (k.fail e l c) := by unfold Ck.fail; split <;> exact ⟨rfl, rfl, rfl, rfl, rfl⟩
theorem same_unless (k : Ck) (b : Bool) (e l c : Int) : SameK k (k.unless b e l c) := by unfold Ck.unless; split; exact .refl k; exact same_fail k e l c
mutual
theorem same_expr : ∀ (e : Ex) (k : Ck), SameK k (ckExpr e k).2
  | .mk kind line col num name op kids, k => by
    rw [ckExpr]
    repeat' split
    · exact .refl k
    · exact .refl k
    · exact same_unless _ _ _ _ _
    · exact ((same_unless _ _ _ _ _).trans (same_unless _ _ _ _ _)).trans (same_kids kids _ _)
    · exact same_fail _ _ _ _
    · exact (same_unless _ _ _ _ _).trans (same_kids kids _ _)
    · exact ((same_unless _ _ _ _ _).trans (same_kids kids _ _)).trans (same_unless _ _ _ _ _)
    · exact (same_unless _ _ _ _ _).trans (same_kids kids _ _)
    · exact (same_unless _ _ _ _ _).trans (same_kids kids _ _)
    · exact same_fail _ _ _ _
theorem same_kids : ∀ (l : List Ex) (t : Int) (k : Ck), SameK k (ckKids l t k)
  | [], t, k => by rw [ckKids]; exact .refl k
  | e :: r, t, k => by rw [ckKids]; exact ((same_expr e k).trans (same_unless _ _ _ _ _)).trans (same_kids r t _)
end
/-- The locals' types are types. -/
def Typed (k : Ck) : Prop := ∀ x t, look k.lm x = some t → 0 ≤ t ∧ t ≤ 2
theorem Typed.same {k k' : Ck} (h : Typed k) (s : SameK k k') : Typed k' := fun x t => by rw [s.2.2.2.2]; exact h x t
theorem type_var {k : Ck} (h : Typed k) (x : List UInt8) : 0 ≤ k.variable x ∧ k.variable x ≤ 2 := by
  unfold Ck.variable
  split
  · rename_i t ht; exact h x t ht
  · split
    · split <;> omega
    · omega
theorem type_expr {k : Ck} (h : Typed k) : ∀ e : Ex, 0 ≤ (ckExpr e k).1 ∧ (ckExpr e k).1 ≤ 2
  | .mk kind line col num name op kids => by
    have h3 := type_var h name
    have h6 : 0 ≤ bothT op ∧ bothT op ≤ 2 := by unfold bothT; split <;> omega
    rw [ckExpr]
    repeat' split
    all_goals first | exact h3 | exact h6 | (simp only; omega) | omega
theorem wf_small {v : Int} (h : 0 ≤ v ∧ v ≤ 2) : (Lit.int .i64 v).wf = true := WalkArith.wf_i64 (by omega)
/-- The locals' map has turned. -/
theorem Checks.putL {base C G F L : Nat} {k : Ck} {w w' : World} {m : NMap} (h : Checks base C G F (.map (some L)) k w) (hg : w.grownBy w' (some L)) (hm : NM 82 w' L m) : Checks base C G F (.map (some L)) { k with lm := m } w' := by
  obtain ⟨⟨gv, fv, hb, h1, h2⟩, h3, h4, h5, h6, h7, h8, h9⟩ := h
  obtain ⟨hL, hLG, hLF⟩ := h6.2.2.2 L rfl
  have hCL : C ≠ L := by
    rcases h5 with ⟨h5, _⟩ | ⟨L', h5, h5'⟩
    · cases h5
    · cases h5; exact (map_ne h5' hb).symm
  have hcl := (Array.getElem?_eq_some_iff.1 hb).1
  have hk : ∀ g, g < base → g < w.heap.size → ∀ o, w'.cell? ⟨g, o, none⟩ = w.cell? ⟨g, o, none⟩ := fun g hg' hl o => World.cell?_of_block (hg.block g hl (by simp; omega))
  exact ⟨⟨gv, fv, (hg.block C hcl (by simpa using hCL)).trans hb, h1.keep hg.size (fun g hg _ => hg) hk, h2.keep hg.size (fun g hg _ => hg) hk⟩, h3.keep (hg.block G h3.lt (by simpa using hLG.symm)), h4.keep (hg.block F h4.lt (by simpa using hLF.symm)), .inr ⟨L, rfl, hm⟩, h6, h7, h8, h9⟩
def StPost (base C G F L : Nat) (k' : Ck) (w : World) (e : Ending) (w' : World) : Prop := e = .returned (.tuple #[]) ∧ Turn (fun q => q = C ∨ q = L) w w' ∧ Checks base C G F (.map (some L)) k' w'
theorem Turn.two {C L : Nat} {w w' : World} (h : Turn (· = C) w w') : Turn (fun q => q = C ∨ q = L) w w' := h.mono (fun _ q => .inl q)
theorem CkPost.st {base C G F L : Nat} {k' : Ck} {w : World} {e : Ending} {w' : World} (h : CkPost base C G F (.map (some L)) k' (.tuple #[]) w e w') : StPost base C G F L k' w e w' := ⟨h.1, h.2.1.two, h.2.2⟩
theorem Checks.nmL {base C G F L : Nat} {k : Ck} {w : World} (h : Checks base C G F (.map (some L)) k w) : NM 82 w L k.lm := by
  rcases h.lm with ⟨h, _⟩ | ⟨L', h, h'⟩
  · cases h
  · cases h; exact h'
theorem lacks_no {does l c : Int} {name : List UInt8} {es : List Ex} {ev : Value} {ta la : Option Addr} {tn tc ln lc : Nat} {base C G F : Nat} {lv : Value} {k : Ck} {w : World} (hi : 0 < es.length) (h : Checks base C G F lv k w) (hs : SmIn base l c es w ev) :
    Calls Tryz.prog 68 #[.pointer (some ⟨C, 0, none⟩), .agg (cellsS does l c name ev (.slice ta tn tc) (.slice la ln lc)), .int .i64 0] w (CkPost base C G F lv k (.bool false) w) := by
  have := lacks_any (does := does) (name := name) (ta := ta) (la := la) (tn := tn) (tc := tc) (ln := ln) (lc := lc) 0 (by omega) h hs
  rw [show decide (0 < es.length) = true from decide_eq_true hi, show decide (es.length ≤ 0) = false from decide_eq_false (by omega)] at this
  exact this
theorem lacks_yes {does l c : Int} {name : List UInt8} {ev : Value} {ta la : Option Addr} {tn tc ln lc : Nat} {base C G F : Nat} {lv : Value} {k : Ck} {w : World} (h : Checks base C G F lv k w) (hs : SmIn base l c [] w ev) :
    Calls Tryz.prog 68 #[.pointer (some ⟨C, 0, none⟩), .agg (cellsS does l c name ev (.slice ta tn tc) (.slice la ln lc)), .int .i64 0] w (CkPost base C G F lv (k.fail 40 l c) (.bool true) w) :=
  lacks_any (does := does) (name := name) (ta := ta) (la := la) (tn := tn) (tc := tc) (ln := ln) (lc := lc) 0 (by omega) h hs
set_option maxHeartbeats 4000000 in
set_option maxRecDepth 100000 in
theorem let_ck {l c : Int} {name : List UInt8} {es : List Ex} {ev : Value} {ta la : Option Addr} {tn tc ln lc : Nat} {base C G F L : Nat} {k : Ck} {w : World} (hn : name.length ≤ 65536) (ht : Typed k) (hsm : k.lm.length ≤ 1000000) (h : Checks base C G F (.map (some L)) k w) (hs : SmIn base l c es w ev) :
    Calls Tryz.prog 43 #[.pointer (some ⟨C, 0, none⟩), .agg (cellsS 1 l c name ev (.slice ta tn tc) (.slice la ln lc))] w (StPost base C G F L (ckLet l c name es k) w) := by
  obtain ⟨a, cap, rfl, hmax, hrow⟩ := kids_parts hs.kids
  have HC := Lib.hid h; have HS := Lib.hid hs; have HROW := Lib.hid hrow; have HTY := Lib.hid ht; have HSM := Lib.hid hsm
  have hlt : C < w.heap.size := by obtain ⟨_, _, q, _⟩ := h.open; exact q
  have hlow := h.low.1
  have HLEN := Lib.hid (show name.length ≤ maxLen by unfold maxLen; omega)
  clear h hs hrow hn ht hsm
  cases hes : es with
  | nil =>
    subst hes
    have HP := Lib.hid (show ckLet l c name [] k = k.fail 40 l c from rfl)
    unfold cellsS
    go_enter Tryz.func43, Tryz.ntmps43
    go_wp2_with (fail)
    refine (lacks_yes (HC.out.alloc _) (HS.out.turn ((Turn.refl (· = C) w).alloc _) (fun q hq => by subst hq; exact hlow))).mono ?_
    rintro e w1 ⟨rfl, ht1, hc1⟩
    have HT1 := Lib.hid ht1; have HC1 := Lib.hid hc1
    clear ht1 hc1
    go_wp2_with (fail)
    go_end0
    exact ⟨rfl, (((Turn.refl (· = C) w).alloc _).trans HT1.out).two, by rw [HP.out]; exact HC1.out⟩
  | cons ex r =>
    have hpos : 0 < es.length := by rw [hes]; simp
    have HP := Lib.hid (show ckLet l c name es k = { ((ckExpr ex k).2.unless (!(ckExpr ex k).2.known name) 20 l c) with lm := (name, some (ckExpr ex k).1) :: ((ckExpr ex k).2.unless (!(ckExpr ex k).2.known name) 20 l c).lm } by rw [hes]; rfl)
    obtain ⟨g, o, rfl, hg, hcap, hr⟩ := HROW.out (by rw [hes]; simp)
    have hgl : g < w.heap.size := by rw [hes] at hr; exact hr.lt
    have HR := Lib.hid hr; have HX := Lib.hid (show es[0] = ex by simp [hes])
    rw [← hes]
    clear hr hes
    unfold cellsS
    go_enter Tryz.func43, Tryz.ntmps43
    go_wp2_with (fail)
    refine (lacks_no hpos (HC.out.alloc _) (HS.out.turn ((Turn.refl (· = C) w).alloc _) (fun q hq => by subst hq; exact hlow))).mono ?_
    rintro e w1 ⟨rfl, ht1, hc1⟩
    have hbx1 := boxS hlt ht1
    obtain ⟨d0, d1, d2, d3, d4, d5, d6⟩ := ownS hbx1
    have hsz : w.heap.size < w1.heap.size := (Array.getElem?_eq_some_iff.1 hbx1).1
    have hT := ((Turn.refl (· = C) w).alloc (.cells (cellsS 1 l c name (.slice (some ⟨g, o, none⟩) es.length cap) (.slice ta tn tc) (.slice la ln lc)) 56)).trans ht1
    have hrow2 := Row.turn hg hgl HR.out hT (fun q hq => by subst hq; exact hlow)
    obtain ⟨kd, ln2, cl, nu, nm, opp, xa, xn, xc, hkat, r0, r1, r2, r3, r4, r5, r6⟩ := kid_cells hrow2 0 hpos
    rw [HX.out] at hkat
    simp only [Nat.zero_mul, Nat.add_zero] at r0 r1 r2 r3 r4 r5 r6
    have hgr : g < w1.heap.size := Nat.lt_of_lt_of_le hgl hT.size
    have HT := Lib.hid hT; have HC1 := Lib.hid hc1; have HK := Lib.hid hkat; have HBX1 := Lib.hid hbx1
    clear ht1 hc1 hT hrow2 hkat hbx1
    go_wp2_with (fail)
    refine (ckexpr_any ex (by have := Ex.shorts_at HS.out.short 0 hpos; rw [HX.out] at this; exact this) _ _ _ _ _ _ _ _ HC1.out HK.out).mono ?_
    rintro e w2 ⟨rfl, ht2, hc2⟩
    have hbx2 := (ht2.block _ hsz (by omega)).trans HBX1.out
    obtain ⟨f0, f1, f2, f3, f4, f5, f6⟩ := ownS hbx2
    have hsz2 : w.heap.size < w2.heap.size := (Array.getElem?_eq_some_iff.1 hbx2).1
    have HT2 := Lib.hid (HT.out.trans ht2); have HC2 := Lib.hid hc2; have HBX2 := Lib.hid hbx2
    have HVT := Lib.hid (type_expr HTY.out ex)
    have HSL := Lib.hid (show (ckExpr ex k).2.lm = k.lm from (same_expr ex k).2.2.2.2)
    clear ht2 hc2 hbx2
    generalize (ckExpr ex k).1 = v at *
    generalize (ckExpr ex k).2 = k2 at *
    go_wp2_with (fail)
    refine (ckknown_any HC2.out name HLEN.out).mono ?_
    rintro e w3 ⟨rfl, rfl⟩
    rcases Bool.eq_false_or_eq_true (k2.known name) with hb | hb
    · have HKV := Lib.hid (show k2.unless (!k2.known name) 20 l c = k2.fail 20 l c by rw [hb]; rfl)
      go_wp2_with (fail)
      refine (ckfail_any HC2.out 20 l c).mono ?_
      rintro e w4 ⟨rfl, ht4, hc4⟩
      have hbx4 := (ht4.block _ hsz2 (by omega)).trans HBX2.out
      obtain ⟨p0, p1, p2, p3, p4, p5, p6⟩ := ownS hbx4
      have hsz4 : w.heap.size < w4.heap.size := (Array.getElem?_eq_some_iff.1 hbx4).1
      have HT4 := Lib.hid (HT2.out.trans ht4); have HC4 := Lib.hid hc4
      have HLM := Lib.hid (show (k2.fail 20 l c).lm.length < maxLen by rw [(same_fail k2 20 l c).2.2.2.2, HSL.out]; have := HSM.out; unfold maxLen; omega)
      rw [HKV.out] at HP
      clear ht4 hc4 hbx4 hb HKV
      go_upto_region 5 with (fail)
      have hC := HC4.out
      obtain ⟨w5, hrun, hnm, hgr⟩ := (hC.nmL.keep (w' := w4.drew) rfl).put wType uMapT (HLM.out) HLEN.out (wf_small HVT.out)
      obtain ⟨gv, fv, hltC, _, _, _, _, _, _, c4, _, _, _, _⟩ := hC.open
      have HNM := Lib.hid hnm; have HGR := Lib.hid hgr
      clear hC hnm hgr
      go_region
      go_wp2_with (fail)
      go_end0
      exact ⟨rfl, (HT4.out.drew.two).trans (Turn.grown HGR.out (fun q hq => by cases hq; exact .inr rfl)), by rw [HP.out]; exact (HC4.out.drew).putL HGR.out HNM.out⟩
    · have HKV := Lib.hid (show k2.unless (!k2.known name) 20 l c = k2 by rw [hb]; rfl)
      have HLM := Lib.hid (show k2.lm.length < maxLen by rw [HSL.out]; have := HSM.out; unfold maxLen; omega)
      rw [HKV.out] at HP
      clear HKV
      go_upto_region 5 with (fail)
      clear hb
      have hC := HC2.out
      obtain ⟨w5, hrun, hnm, hgr⟩ := (hC.nmL.keep (w' := w3.drew) rfl).put wType uMapT (HLM.out) HLEN.out (wf_small HVT.out)
      obtain ⟨gv, fv, hltC, _, _, _, _, _, _, c4, _, _, _, _⟩ := hC.open
      have HNM := Lib.hid hnm; have HGR := Lib.hid hgr
      clear hC hnm hgr
      go_region
      go_wp2_with (fail)
      go_end0
      exact ⟨rfl, (HT2.out.drew.two).trans (Turn.grown HGR.out (fun q hq => by cases hq; exact .inr rfl)), by rw [HP.out]; exact (HC2.out.drew).putL HGR.out HNM.out⟩
end Go.Proofs.YtffgioifjdpajaaGreatDoor
