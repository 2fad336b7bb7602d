/-
  The checker: want, kids.
-/
import Derived.Test.YtffgioifjdpajaaGreatDoorChkC
namespace Go.Proofs.YtffgioifjdpajaaGreatDoor
open Go.ChangeShapes Go.WideShapes Go.ChangeAt Go.RowKit
set_option linter.unusedVariables false

mutual
/-- No name is longer than a text may be. -/
def Ex.short : Ex → Bool
  | .mk _ _ _ _ name _ kids => decide (name.length ≤ 65536) && Ex.shorts kids
def Ex.shorts : List Ex → Bool
  | [] => true
  | e :: r => e.short && Ex.shorts r
end
theorem Ex.shorts_at : ∀ {l : List Ex}, Ex.shorts l = true → ∀ i (h : i < l.length), (l[i]).short = true
  | [], _, i, h => by simp at h
  | e :: r, hs, 0, h => by simp [Ex.shorts] at hs; exact hs.1
  | e :: r, hs, i + 1, h => by simp [Ex.shorts] at hs; exact Ex.shorts_at hs.2 i (by simpa using h)
/-- What expr promises of an expression. -/
def ExOk (ex : Ex) : Prop := ∀ (base C G F : Nat) (lv : Value) (k : Ck) (w : World) (cs : Array Value), Checks base C G F lv k w → ex.At w (· < base) cs →
  Calls Tryz.prog 69 #[.pointer (some ⟨C, 0, none⟩), .agg cs] w (CkPost base C G F lv (ckExpr ex k).2 (.int .i64 (ckExpr ex k).1) w)
theorem Checks.unless_eq {k : Ck} {b : Bool} {e l c : Int} : k.unless b e l c = if b then k else k.fail e l c := rfl
theorem At.alloc {ex : Ex} {w : World} {base : Nat} {cs : Array Value} (h : ex.At w (· < base) cs) (o : Obj) : ex.At (w.alloc o) (· < base) cs :=
  Ex.At.keep (fun q hq _ => hq) (fun q _ hl p => World.cell?_of_block (Below.heap_alloc w o q hl)) _ _ h
theorem At.turn {ex : Ex} {w w' : World} {base : Nat} {cs : Array Value} {X : Nat → Prop} (h : ex.At w (· < base) cs) (ht : Turn X w w') (hX : ∀ q, X q → base ≤ q) : ex.At w' (· < base) cs :=
  Ex.At.keep (fun q hq _ => hq) (fun q hq hl p => ht.cell hl (fun hx => by have := hX q hx; omega) p) _ _ h
/-- The seven cells of a box that a call has laid, also behind a call that turns the checker alone. -/
theorem box7 {w w' : World} {C : Nat} {kind line col num : Int} {name : List UInt8} {op : Int} {kv : Value} (hC : C < w.heap.size) (ht : Turn (· = C) (w.alloc (.cells (cells7 kind line col num name op kv) 51)) w') :
    w'.heap[w.heap.size]? = some (.cells (cells7 kind line col num name op kv) 51 (0, 0)) :=
  (ht.block w.heap.size (by simp) (by omega)).trans (alloc_at _ _ _ rfl)
set_option maxHeartbeats 1000000 in
set_option maxRecDepth 100000 in
theorem ckwant_any {ex : Ex} (hex : ExOk ex) {base C G F : Nat} {lv : Value} {k : Ck} {w : World} (cs : Array Value) (t : Int) (h : Checks base C G F lv k w) (hat : ex.At w (· < base) cs) :
    Calls Tryz.prog 72 #[.pointer (some ⟨C, 0, none⟩), .agg cs, .int .i64 t] w (CkPost base C G F lv (ckWant ex t k) (.tuple #[]) w) := by
  obtain ⟨kind, line, col, num, name, op, ka, kn, kc, rfl⟩ := hat.cells
  have HLC := Lib.hid (show ex.line = line ∧ ex.col = col by
    cases ex with
    | mk a b c d e f g =>
      unfold Ex.At at hat
      obtain ⟨_, _, kv, hcs, _⟩ := hat
      have h1 := congrArg (fun x => x[1]?) hcs
      have h2 := congrArg (fun x => x[2]?) hcs
      simp [cells7] at h1 h2
      exact ⟨h1.symm, h2.symm⟩)
  have HEX : Hid (ExOk ex) := Lib.hid hex
  have HC := Lib.hid h; have HAT := Lib.hid hat
  have hlt : C < w.heap.size := by obtain ⟨_, _, q, _⟩ := h.open; exact q
  clear h hat hex
  unfold cells7
  go_enter Tryz.func72, Tryz.ntmps72
  go_wp2_with (fail)
  refine (HEX.out _ _ _ _ _ _ _ _ (HC.out.alloc _) (At.alloc HAT.out _)).mono ?_
  rintro e w1 ⟨rfl, ht1, hc1⟩
  have hbx := box7 hlt ht1
  obtain ⟨d0, d1, d2, d3, d4, d5, d6⟩ := own7 hbx
  have hsz : w.heap.size < w1.heap.size := (Array.getElem?_eq_some_iff.1 hbx).1
  have HT1 := Lib.hid ht1; have HC1 := Lib.hid hc1
  have HW := Lib.hid (show ckWant ex t k = if ((ckExpr ex k).1 == t) then (ckExpr ex k).2 else (ckExpr ex k).2.fail 22 line col by unfold ckWant Ck.unless; rw [HLC.out.1, HLC.out.2])
  clear ht1 hc1 hbx
  generalize (ckExpr ex k).1 = v at HW
  generalize (ckExpr ex k).2 = k1 at HW HC1
  rcases Bool.eq_false_or_eq_true (v == t) with hb | hb
  · have hb' : (v != t) = false := by simp at hb ⊢; exact hb
    rw [hb] at HW
    go_wp2_with (fail)
    go_end0
    unfold CkPost
    rw [HW.out]
    exact ⟨rfl, ((Turn.refl (· = C) w).alloc _).trans HT1.out, HC1.out⟩
  · have hb' : (v != t) = true := by simp at hb ⊢; exact hb
    rw [hb] at HW
    go_wp2_with (fail)
    refine (ckfail_any HC1.out 22 line col).mono ?_
    rintro e w2 ⟨rfl, ht2, hc2⟩
    go_wp2_with (fail)
    go_end0
    unfold CkPost
    rw [HW.out]
    exact ⟨rfl, (((Turn.refl (· = C) w).alloc _).trans HT1.out).trans ht2, hc2⟩
theorem ckKids_snoc : ∀ (l : List Ex) (e : Ex) (t : Int) (k : Ck), ckKids (l ++ [e]) t k = ckWant e t (ckKids l t k)
  | [], e, t, k => by simp [ckKids, ckWant]
  | a :: l, e, t, k => by simp only [List.cons_append, ckKids]; exact ckKids_snoc l e t _
/-- The kids of an expression, as its cells hold them. -/
theorem at_kids_of {w : World} {S : Nat → Prop} {kind line col num : Int} {name : List UInt8} {op : Int} {kids : List Ex} {cs : Array Value} (h : (Ex.mk kind line col num name op kids).At w S cs) : InI64 op ∧ ∃ v, cs = cells7 kind line col num name op v ∧ KidsAt w S kids v := by
  unfold Ex.At at h
  obtain ⟨_, h2, v, rfl, _, h5⟩ := h
  exact ⟨h2, v, rfl, h5⟩
def kidAt (kids : List Ex) (i : Nat) (t : Int) (k : Ck) : Ck := ckKids (kids.take i) t k
theorem kidAt_succ {kids : List Ex} {i : Nat} (h : i < kids.length) (t : Int) (k : Ck) : kidAt kids (i + 1) t k = ckWant kids[i] t (kidAt kids i t k) := by
  unfold kidAt
  rw [List.take_succ_eq_append_getElem h, ckKids_snoc]
theorem kidAt_all (kids : List Ex) (t : Int) (k : Ck) : kidAt kids kids.length t k = ckKids kids t k := by unfold kidAt; rw [List.take_length]
theorem Turn.later {C : Nat} {w w' w'' : World} (h : Turn (· = C) w w') (k : Turn (· = C) w' w'') : Turn (· = C) w w'' := h.trans k
theorem kids_parts {w : World} {S : Nat → Prop} {kids : List Ex} {v : Value} (h : KidsAt w S kids v) : ∃ a cap, v = .slice a kids.length cap ∧ kids.length ≤ 4611686018427387904 ∧ (kids ≠ [] → ∃ g o, a = some ⟨g, o, none⟩ ∧ S g ∧ kids.length ≤ cap ∧ Ex.Row w S g o kids) := by
  rcases h with ⟨rfl, a, cap, rfl⟩ | ⟨hne, g, o, cap, rfl, hg, h1, h2, h3⟩
  · exact ⟨a, cap, rfl, by simp, fun q => absurd rfl q⟩
  · exact ⟨_, cap, rfl, h2, fun _ => ⟨g, o, rfl, hg, h1, h3⟩⟩
theorem Row.turn {kids : List Ex} {w w' : World} {base g o : Nat} {X : Nat → Prop} (hg : g < base) (hl : g < w.heap.size) (h : Ex.Row w (· < base) g o kids) (ht : Turn X w w') (hX : ∀ q, X q → base ≤ q) : Ex.Row w' (· < base) g o kids :=
  Ex.Row.keep (fun q hq _ => hq) (fun q hq hl p => ht.cell hl (fun hx => by have : base ≤ q := hX q hx; have : q < base := hq; omega) p) g hg hl o kids h
set_option maxHeartbeats 2000000 in
set_option maxRecDepth 100000 in
theorem ckkids_any {kind line col num : Int} {name : List UInt8} {op : Int} {kids : List Ex} (hex : ∀ i (h : i < kids.length), ExOk kids[i]) {base C G F : Nat} {lv : Value} {k : Ck} {w : World} (cs : Array Value) (many : Nat) (hm : many ≤ 4611686018427387904) (t : Int) (h : Checks base C G F lv k w) (hat : (Ex.mk kind line col num name op kids).At w (· < base) cs) :
    Calls Tryz.prog 85 #[.pointer (some ⟨C, 0, none⟩), .agg cs, .int .i64 many, .int .i64 t] w (CkPost base C G F lv (ckKids kids t (k.unless (kids.length == many) 40 line col)) (.tuple #[]) w) := by
  obtain ⟨_, v, rfl, hk⟩ := at_kids_of hat
  obtain ⟨a, cap, rfl, hmax, hrow⟩ := kids_parts hk
  have HEX := Lib.hid hex; have HROW := Lib.hid hrow
  have HC := Lib.hid h
  have hlt : C < w.heap.size := by obtain ⟨_, _, q, _⟩ := h.open; exact q
  have hlow := h.low.1
  clear h hat hex hk hrow
  unfold cells7
  have HK := Lib.hid (show k.unless (kids.length == many) 40 line col = if kids.length == many then k else k.fail 40 line col from rfl)
  generalize k.unless (kids.length == many) 40 line col = k1 at HK
  rcases Nat.decEq kids.length many with hq | hq
  · have q1 : ((kids.length : Int) != (many : Int)) = true := by simp; omega
    have HK1 := Lib.hid (show k.fail 40 line col = k1 by have := HK.out; rw [show (kids.length == many) = false by simpa using hq] at this; exact this.symm)
    clear HK hq
    go_enter Tryz.func85, Tryz.ntmps85
    go_wp2_with (fail)
    refine (ckfail_any (HC.out.alloc _) 40 line col).mono ?_
    rintro e w1 ⟨rfl, ht1, hc1⟩
    rw [HK1.out] at hc1
    clear q1
    have hbx := box7 hlt ht1
    obtain ⟨d0, d1, d2, d3, d4, d5, d6⟩ := own7 hbx
    have hsz : w.heap.size < w1.heap.size := (Array.getElem?_eq_some_iff.1 hbx).1
    have HT1 := Lib.hid (((Turn.refl (· = C) w).alloc _).trans ht1); have HC1 := Lib.hid hc1
    clear ht1 hc1 hbx
    go_wp2_with (fail)
    go_loopw [22] (fun i wr => ∃ j : Nat, j ≤ kids.length ∧ i = .int .i64 j ∧ Turn (· = C) w wr ∧ Checks base C G F lv (kidAt kids j t k1) wr) (fun i _ => kids.length - (intOf i).toNat)
    case atStart => exact ⟨0, Nat.zero_le _, rfl, HT1.out, HC1.out⟩
    case round =>
      obtain ⟨j, hj, rfl, htr, hcr⟩ := hrel
      have HTR := Lib.hid htr; have HCR := Lib.hid hcr
      by_cases hjl : j < kids.length
      · have hne : kids ≠ [] := by intro q; rw [q] at hjl; simp at hjl
        obtain ⟨g, o, rfl, hg, hcap, hrow⟩ := HROW.out hne
        have hgl : g < w.heap.size := by
          cases hq : kids with
          | nil => exact absurd hq hne
          | cons x r => rw [hq] at hrow; exact hrow.lt
        have hrow2 := Row.turn hg hgl hrow htr (fun q hq => by rw [hq]; exact hlow)
        obtain ⟨kd, ln, cl, nu, nm, opp, xa, xn, xc, hkat, r0, r1, r2, r3, r4, r5, r6⟩ := kid_cells hrow2 j hjl
        have hgr : g < wr.heap.size := Nat.lt_of_lt_of_le hgl htr.size
        have HKAT := Lib.hid hkat
        have HSUC := Lib.hid (kidAt_succ hjl t k1)
        have HE := Lib.hid (HEX.out j hjl)
        clear htr hcr hrow hrow2 hkat hne
        generalize hKJ : kids[j] = kj at HKAT HSUC HE
        clear hKJ
        go_wp2_with (fail)
        refine (ckwant_any HE.out _ t (HCR.out.alloc _) (At.alloc HKAT.out _)).mono ?_
        rintro e w2 ⟨rfl, ht2, hc2⟩
        have HT2 := Lib.hid ht2; have HC2 := Lib.hid hc2
        clear ht2 hc2
        go_wp2_with (fail)
        go_roundw
        case rel => exact ⟨j + 1, by omega, by go_num, (HTR.out.alloc _).trans HT2.out, by rw [HSUC.out]; exact HC2.out⟩
        case measure => simp [intOf]; omega
      · obtain rfl : j = kids.length := by omega
        have HALL := Lib.hid (kidAt_all kids t k1)
        clear htr hcr
        rw [HALL.out] at HCR
        go_wp2_with (fail)
        go_end0
        exact ⟨rfl, HTR.out, HCR.out⟩
  · have q1 : ((kids.length : Int) != (many : Int)) = false := by simp; omega
    have hk1 : k1 = k := by have := HK.out; rw [show (kids.length == many) = true by simpa using hq] at this; exact this
    subst hk1
    clear HK hq
    go_enter Tryz.func85, Tryz.ntmps85
    go_upto_region 3 with (fail)
    change Code.wp _ _ _ _ (w.alloc (.cells (cells7 kind line col num name op (.slice a kids.length cap)) 51))
    obtain ⟨w1, hw1⟩ : ∃ w1, w1 = w.alloc (.cells (cells7 kind line col num name op (.slice a kids.length cap)) 51) := ⟨_, rfl⟩
    rw [← hw1]
    have ht1 : Turn (· = C) (w.alloc (.cells (cells7 kind line col num name op (.slice a kids.length cap)) 51)) w1 := by rw [hw1]; exact Turn.refl _ _
    have hc1 : Checks base C G F lv k1 w1 := by rw [hw1]; exact HC.out.alloc _
    clear hw1 q1
    have hbx := box7 hlt ht1
    obtain ⟨d0, d1, d2, d3, d4, d5, d6⟩ := own7 hbx
    have hsz : w.heap.size < w1.heap.size := (Array.getElem?_eq_some_iff.1 hbx).1
    have HT1 := Lib.hid (((Turn.refl (· = C) w).alloc _).trans ht1); have HC1 := Lib.hid hc1
    clear ht1 hc1 hbx
    go_wp2_with (fail)
    go_loopw [22] (fun i wr => ∃ j : Nat, j ≤ kids.length ∧ i = .int .i64 j ∧ Turn (· = C) w wr ∧ Checks base C G F lv (kidAt kids j t k1) wr) (fun i _ => kids.length - (intOf i).toNat)
    case atStart => exact ⟨0, Nat.zero_le _, rfl, HT1.out, HC1.out⟩
    case round =>
      obtain ⟨j, hj, rfl, htr, hcr⟩ := hrel
      have HTR := Lib.hid htr; have HCR := Lib.hid hcr
      by_cases hjl : j < kids.length
      · have hne : kids ≠ [] := by intro q; rw [q] at hjl; simp at hjl
        obtain ⟨g, o, rfl, hg, hcap, hrow⟩ := HROW.out hne
        have hgl : g < w.heap.size := by
          cases hq : kids with
          | nil => exact absurd hq hne
          | cons x r => rw [hq] at hrow; exact hrow.lt
        have hrow2 := Row.turn hg hgl hrow htr (fun q hq => by rw [hq]; exact hlow)
        obtain ⟨kd, ln, cl, nu, nm, opp, xa, xn, xc, hkat, r0, r1, r2, r3, r4, r5, r6⟩ := kid_cells hrow2 j hjl
        have hgr : g < wr.heap.size := Nat.lt_of_lt_of_le hgl htr.size
        have HKAT := Lib.hid hkat
        have HSUC := Lib.hid (kidAt_succ hjl t k1)
        have HE := Lib.hid (HEX.out j hjl)
        clear htr hcr hrow hrow2 hkat hne
        generalize hKJ : kids[j] = kj at HKAT HSUC HE
        clear hKJ
        go_wp2_with (fail)
        refine (ckwant_any HE.out _ t (HCR.out.alloc _) (At.alloc HKAT.out _)).mono ?_
        rintro e w2 ⟨rfl, ht2, hc2⟩
        have HT2 := Lib.hid ht2; have HC2 := Lib.hid hc2
        clear ht2 hc2
        go_wp2_with (fail)
        go_roundw
        case rel => exact ⟨j + 1, by omega, by go_num, (HTR.out.alloc _).trans HT2.out, by rw [HSUC.out]; exact HC2.out⟩
        case measure => simp [intOf]; omega
      · obtain rfl : j = kids.length := by omega
        have HALL := Lib.hid (kidAt_all kids t k1)
        clear htr hcr
        rw [HALL.out] at HCR
        go_wp2_with (fail)
        go_end0
        exact ⟨rfl, HTR.out, HCR.out⟩
end Go.Proofs.YtffgioifjdpajaaGreatDoor
