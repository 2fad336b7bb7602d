/-
  The checker: block, over statements that are as they should be.
-/
import Derived.Test.YtffgioifjdpajaaGreatDoorChkJ
namespace Go.Proofs.YtffgioifjdpajaaGreatDoor
open Go.ChangeShapes Go.WideShapes Go.ChangeAt Go.RowKit
set_option linter.unusedVariables false

theorem sm_parts {w : World} {S : Nat → Prop} {does l c : Int} {name : List UInt8} {es : List Ex} {thn els : List Sm} {cs : Array Value} (h : (Sm.mk does l c name es thn els).At w S cs) : ∃ ev ta tc la lc, cs = cellsS does l c name ev (.slice ta thn.length tc) (.slice la els.length lc) ∧ KidsAt w S es ev ∧ BodyAt w S thn (.slice ta thn.length tc) ∧ BodyAt w S els (.slice la els.length lc) := by
  unfold Sm.At at h
  obtain ⟨ev, tv, lv, rfl, h1, h2, h3⟩ := h
  have g : ∀ (l : List Sm) (v : Value), BodyAt w S l v → ∃ a c, v = .slice a l.length c := fun l v hb => by
    rcases hb with ⟨rfl, a, cap, rfl⟩ | ⟨_, g, o, cap, rfl, _⟩ <;> exact ⟨_, _, rfl⟩
  obtain ⟨ta, tc, rfl⟩ := g thn tv h2
  obtain ⟨la, lc, rfl⟩ := g els lv h3
  exact ⟨ev, ta, tc, la, lc, rfl, h1, h2, h3⟩
theorem row_get {w : World} {S : Nat → Prop} {g : Nat} : ∀ (o : Nat) (l : List Sm), Sm.Row w S g o l → ∀ (i : Nat) (h : i < l.length), ∃ cs, (l[i]).At w S cs ∧ ∀ j, j < 7 → w.cell? ⟨g, o + i * 7 + j, none⟩ = cs[j]?
  | o, [], _, i, h => by simp at h
  | o, e :: r, hr, 0, h => by unfold Sm.Row at hr; obtain ⟨⟨cs, h1, h2⟩, _⟩ := hr; exact ⟨cs, h1, fun j hj => by rw [show o + 0 * 7 + j = o + j by omega]; exact h2 j hj⟩
  | o, e :: r, hr, i + 1, h => by
    unfold Sm.Row at hr
    obtain ⟨cs, h1, h2⟩ := row_get (o + 7) r hr.2 i (by simpa using h)
    exact ⟨cs, h1, fun j hj => by rw [show o + (i + 1) * 7 + j = o + 7 + i * 7 + j by omega]; exact h2 j hj⟩
theorem BodyAt.turn {w w' : World} {base : Nat} {l : List Sm} {v : Value} {X : Nat → Prop} (h : BodyAt w (· < base) l v) (ht : Turn X w w') (hX : ∀ q, X q → base ≤ q) : BodyAt w' (· < base) l v :=
  h.keep (fun q hq _ => hq) (fun q hq hl p => ht.cell hl (fun hx => by have : base ≤ q := hX q hx; have : q < base := hq; omega) p)
theorem SmAt.turn {w w' : World} {base : Nat} {s : Sm} {cs : Array Value} {X : Nat → Prop} (h : s.At w (· < base) cs) (ht : Turn X w w') (hX : ∀ q, X q → base ≤ q) : s.At w' (· < base) cs :=
  h.keep (fun q hq _ => hq) (fun q hq hl p => ht.cell hl (fun hx => by have : base ≤ q := hX q hx; have : q < base := hq; omega) p)
/-- What stmt promises of a statement. -/
def StOk (s : Sm) : Prop := ∀ (base C G F L : Nat) (k : Ck) (w : World) (cs : Array Value), Typed k → k.lm.length + s.grow ≤ 1000000 → Checks base C G F (.map (some L)) k w → s.At w (· < base) cs →
  Calls Tryz.prog 34 #[.pointer (some ⟨C, 0, none⟩), .agg cs] w (StPost base C G F L (ckStmt s k) w)
/-- What block promises of statements. -/
def BlOk (l : List Sm) : Prop := ∀ (base C G F L : Nat) (k : Ck) (w : World) (v : Value), Typed k → k.lm.length + Sm.grows l ≤ 1000000 → Checks base C G F (.map (some L)) k w → BodyAt w (· < base) l v →
  Calls Tryz.prog 30 #[.pointer (some ⟨C, 0, none⟩), v] w (StPost base C G F L (ckBlock l k) w)
theorem grows_append : ∀ (a b : List Sm), Sm.grows (a ++ b) = Sm.grows a + Sm.grows b
  | [], b => by simp [Sm.grows]
  | s :: r, b => by simp only [List.cons_append, Sm.grows, grows_append r b]; omega
theorem grows_take {l : List Sm} {j : Nat} (h : j < l.length) : Sm.grows (l.take j) + ((l[j]).grow + 1) ≤ Sm.grows l := by
  have e : l = l.take j ++ l.drop j := (List.take_append_drop j l).symm
  have h2 : l.drop j = l[j] :: l.drop (j + 1) := List.drop_eq_getElem_cons h
  have h3 : Sm.grows l = Sm.grows (l.take j) + Sm.grows (l.drop j) := by rw [← grows_append, ← e]
  rw [h3, h2, Sm.grows]; omega
theorem stAt_room {l : List Sm} {j : Nat} (h : j < l.length) (k : Ck) (hk : k.lm.length + Sm.grows l ≤ 1000000) : (stAt l j k).lm.length + (l[j]).grow ≤ 1000000 := by
  have h1 := (stmts_grown (l.take j) k).2
  have h2 := grows_take h
  unfold stAt
  omega
theorem drops_append : ∀ (xs ys : List (List UInt8)) (k : Ck), k.drops (xs ++ ys) = (k.drops xs).drops ys
  | [], ys, k => rfl
  | x :: r, ys, k => by simp only [List.cons_append, Ck.drops]; exact drops_append r ys _
theorem lets_append : ∀ (a b : List Sm), letsOf (a ++ b) = letsOf a ++ letsOf b
  | [], b => rfl
  | .mk does _ _ name _ _ _ :: r, b => by
    simp only [List.cons_append, letsOf]
    split
    · rw [lets_append r b]; rfl
    · exact lets_append r b
def dropAt (l : List Sm) (i : Nat) (k : Ck) : Ck := k.drops (letsOf (l.take i))
theorem dropAt_succ {l : List Sm} {i : Nat} (h : i < l.length) (k : Ck) : dropAt l (i + 1) k = (dropAt l i k).drops (letsOf [l[i]]) := by
  unfold dropAt; rw [List.take_succ_eq_append_getElem h, lets_append, drops_append]
theorem dropAt_all (l : List Sm) (k : Ck) : dropAt l l.length k = k.drops (letsOf l) := by unfold dropAt; rw [List.take_length]
set_option maxHeartbeats 4000000 in
set_option maxRecDepth 100000 in
theorem block_ck {l : List Sm} (hst : ∀ i (h : i < l.length), StOk l[i]) (hfit : Sm.fits l = true) : BlOk l := by
  intro base C G F L k w v hty hroom h hb
  have hp : ∃ a cap, v = .slice a l.length cap ∧ l.length ≤ 4611686018427387904 ∧ (l ≠ [] → ∃ g o, a = some ⟨g, o, none⟩ ∧ g < base ∧ l.length ≤ cap ∧ g < w.heap.size ∧ Sm.Row w (· < base) g o l) := by
    rcases hb with ⟨rfl, a, cap, rfl⟩ | ⟨hne, g, o, cap, rfl, hg, h1, h2, h3⟩
    · exact ⟨a, cap, rfl, by simp, fun q => absurd rfl q⟩
    · exact ⟨_, cap, rfl, h2, fun _ => ⟨g, o, rfl, hg, h1, by cases l with | nil => exact absurd rfl hne | cons x r => exact h3.lt, h3⟩⟩
  obtain ⟨a, cap, rfl, hmax, hrow⟩ := hp
  have HST := Lib.hid hst; have HROW := Lib.hid hrow; have HFIT := Lib.hid hfit; have HTY := Lib.hid hty; have HROOM := Lib.hid hroom
  have HC := Lib.hid h
  have hlow := h.low.1
  have hlowL := (h.low.2.2.2 L rfl).1
  have hXb : ∀ q, (q = C ∨ q = L) → base ≤ q := fun q hq => by rcases hq with rfl | rfl; exact hlow; exact hlowL
  have HXB := Lib.hid hXb
  clear h hb hst hrow hfit hty hroom hXb
  go_enter Tryz.func30, Tryz.ntmps30
  go_wp2_with (fail)
  go_loopw [10] (fun i wr => ∃ j : Nat, j ≤ l.length ∧ i = .int .i64 j ∧ Turn (fun q => q = C ∨ q = L) w wr ∧ Checks base C G F (.map (some L)) (stAt l j k) wr) (fun i _ => l.length - (intOf i).toNat)
  case atStart => exact ⟨0, Nat.zero_le _, rfl, Turn.refl _ _, HC.out⟩
  case round =>
    obtain ⟨j, hj, rfl, htr, hcr⟩ := hrel
    have HTR := Lib.hid htr; have HCR := Lib.hid hcr
    by_cases hjl : j < l.length
    · have hne : l ≠ [] := by intro q; rw [q] at hjl; simp at hjl
      obtain ⟨g, o, rfl, hg, hcap, hgl, hrow⟩ := HROW.out hne
      obtain ⟨cs, hat, hcl⟩ := row_get o l hrow j hjl
      cases hs : l[j] with
      | mk does ln cl name es thn els =>
        have HS := Lib.hid hs
        rw [hs] at hat
        have hat2 := SmAt.turn hat htr HXB.out
        obtain ⟨ev, ta, tc, la, lc, rfl, h1, h2, h3⟩ := sm_parts hat2
        obtain ⟨ea, ecap, rfl, _⟩ := kids_parts h1
        have hold : ∀ q, q < 7 → wr.cell? ⟨g, o + j * 7 + q, none⟩ = (cellsS does ln cl name (.slice ea es.length ecap) (.slice ta thn.length tc) (.slice la els.length lc))[q]? := fun q hq => (htr.cell hgl (fun hx => by have := HXB.out g hx; omega) _).trans (hcl q hq)
        have r0 : wr.cell? ⟨g, o + j * 7, none⟩ = some (.int .i64 does) := hold 0 (by decide)
        have r1 : wr.cell? ⟨g, o + j * 7 + 1, none⟩ = some (.int .i64 ln) := hold 1 (by decide)
        have r2 : wr.cell? ⟨g, o + j * 7 + 2, none⟩ = some (.int .i64 cl) := hold 2 (by decide)
        have r3 : wr.cell? ⟨g, o + j * 7 + 3, none⟩ = some (.string ⟨name.toArray⟩) := hold 3 (by decide)
        have r4 : wr.cell? ⟨g, o + j * 7 + 4, none⟩ = some (.slice ea es.length ecap) := hold 4 (by decide)
        have r5 : wr.cell? ⟨g, o + j * 7 + 5, none⟩ = some (.slice ta thn.length tc) := hold 5 (by decide)
        have r6 : wr.cell? ⟨g, o + j * 7 + 6, none⟩ = some (.slice la els.length lc) := hold 6 (by decide)
        have hgr : g < wr.heap.size := Nat.lt_of_lt_of_le hgl htr.size
        have HAT := Lib.hid hat2
        have HSUC := Lib.hid (stAt_succ hjl k)
        have HO := Lib.hid (HST.out j hjl)
        have HRM := Lib.hid (stAt_room hjl k HROOM.out)
        rw [hs] at HSUC HO HRM
        clear htr hcr hrow hat hat2 h1 h2 h3 hcl hold hne hs
        go_wp2_with (fail)
        refine (HO.out base C G F L _ _ _ ((stmts_grown (l.take j) k).1 HTY.out) HRM.out (HCR.out.alloc _) (SmAt.turn HAT.out ((Turn.refl (fun q => q = C ∨ q = L) wr).alloc _) HXB.out)).mono ?_
        rintro e w2 ⟨rfl, ht2, hc2⟩
        have HT2 := Lib.hid ht2; have HC2 := Lib.hid hc2
        clear ht2 hc2
        go_wp2_with (fail)
        go_roundw
        case rel => exact ⟨j + 1, by omega, by go_num, (HTR.out.alloc _).trans HT2.out, by rw [HSUC.out]; exact HC2.out⟩
        case measure => simp [intOf]; omega
    · obtain rfl : j = l.length := by omega
      have HALL := Lib.hid (stAt_all l k)
      rw [HALL.out] at HCR
      clear htr hcr
      go_wp2_with (fail)
      go_loopw [20] (fun i wx => ∃ j : Nat, j ≤ l.length ∧ i = .int .i64 j ∧ Turn (fun q => q = C ∨ q = L) w wx ∧ Checks base C G F (.map (some L)) (dropAt l j (ckStmts l k)) wx) (fun i _ => l.length - (intOf i).toNat)
      case atStart => exact ⟨0, Nat.zero_le _, rfl, HTR.out, HCR.out⟩
      case round =>
        obtain ⟨j, hj2, rfl, htx, hcx⟩ := hrel
        have HTX := Lib.hid htx; have HCX := Lib.hid hcx
        by_cases hjl : j < l.length
        · have hne : l ≠ [] := by intro q; rw [q] at hjl; simp at hjl
          obtain ⟨g, o, rfl, hg, hcap, hgl, hrow⟩ := HROW.out hne
          obtain ⟨cs, hat, hcl⟩ := row_get o l hrow j hjl
          cases hs : l[j] with
          | mk does ln cl name es thn els =>
            rw [hs] at hat
            have hat2 := SmAt.turn hat htx HXB.out
            obtain ⟨ev, ta, tc, la, lc, rfl, h1, h2, h3⟩ := sm_parts hat2
            obtain ⟨ea, ecap, rfl, _⟩ := kids_parts h1
            have hold : ∀ q, q < 7 → wr.cell? ⟨g, o + j * 7 + q, none⟩ = (cellsS does ln cl name (.slice ea es.length ecap) (.slice ta thn.length tc) (.slice la els.length lc))[q]? := fun q hq => (htx.cell hgl (fun hx => by have := HXB.out g hx; omega) _).trans (hcl q hq)
            have r0 : wr.cell? ⟨g, o + j * 7, none⟩ = some (.int .i64 does) := hold 0 (by decide)
            have r1 : wr.cell? ⟨g, o + j * 7 + 1, none⟩ = some (.int .i64 ln) := hold 1 (by decide)
            have r2 : wr.cell? ⟨g, o + j * 7 + 2, none⟩ = some (.int .i64 cl) := hold 2 (by decide)
            have r3 : wr.cell? ⟨g, o + j * 7 + 3, none⟩ = some (.string ⟨name.toArray⟩) := hold 3 (by decide)
            have r4 : wr.cell? ⟨g, o + j * 7 + 4, none⟩ = some (.slice ea es.length ecap) := hold 4 (by decide)
            have r5 : wr.cell? ⟨g, o + j * 7 + 5, none⟩ = some (.slice ta thn.length tc) := hold 5 (by decide)
            have r6 : wr.cell? ⟨g, o + j * 7 + 6, none⟩ = some (.slice la els.length lc) := hold 6 (by decide)
            have hgr : g < wr.heap.size := Nat.lt_of_lt_of_le hgl htx.size
            have HSUC := Lib.hid (dropAt_succ hjl (ckStmts l k))
            have HNM := Lib.hid (show name.length ≤ maxLen by
              have := Sm.fits_at HFIT.out j hjl
              rw [hs] at this
              simp only [Sm.fit, Bool.and_eq_true, decide_eq_true_eq] at this
              have := this.1.1.1
              unfold maxLen; omega)
            rw [hs] at HSUC
            clear htx hcx hrow hat hat2 h1 h2 h3 hcl hold hne hs
            by_cases hd : does = 1
            · have hd1 : (does == 1) = true := by simpa using hd
              have HD := Lib.hid (show letsOf [Sm.mk does ln cl name es thn els] = [name] by simp [letsOf, hd])
              clear hd
              go_upto_region 9 with (fail)
              change Code.wp _ _ _ _ (wr.alloc (.cells (cellsS does ln cl name (.slice ea es.length ecap) (.slice ta thn.length tc) (.slice la els.length lc)) 56))
              have hC := HCX.out.alloc (.cells (cellsS does ln cl name (.slice ea es.length ecap) (.slice ta thn.length tc) (.slice la els.length lc)) 56)
              have hB := alloc_at wr (.cells (cellsS does ln cl name (.slice ea es.length ecap) (.slice ta thn.length tc) (.slice la els.length lc)) 56) _ rfl
              have hT := HTX.out.alloc (.cells (cellsS does ln cl name (.slice ea es.length ecap) (.slice ta thn.length tc) (.slice la els.length lc)) 56)
              generalize wr.alloc (.cells (cellsS does ln cl name (.slice ea es.length ecap) (.slice ta thn.length tc) (.slice la els.length lc)) 56) = W at *
              obtain ⟨w5, hrun, hnm, hgrw⟩ := (hC.nmL.keep (w' := W.drew) rfl).del (x := name) uMapT HNM.out 0
              obtain ⟨gv, fv, hltC, _, _, _, _, _, _, c4, _, _, _, _⟩ := hC.open
              obtain ⟨d0, d1, d2, d3, d4, d5, d6⟩ := ownS hB
              have hsz : wr.heap.size < W.heap.size := (Array.getElem?_eq_some_iff.1 hB).1
              have HNM2 := Lib.hid hnm; have HGR := Lib.hid hgrw; have HC9 := Lib.hid hC; have HT9 := Lib.hid hT
              clear hC hB hT hnm hgrw r0 r1 r2 r3 r4 r5 r6
              go_region
              go_wp2_with (fail)
              go_roundw
              case rel => exact ⟨j + 1, by omega, by go_num, HT9.out.drew.trans (Turn.grown HGR.out (fun q hq => by cases hq; exact .inr rfl)), by rw [HSUC.out, HD.out]; exact HC9.out.drew.putL HGR.out HNM2.out⟩
              case measure => simp [intOf]; omega
            · have hd1 : (does == 1) = false := by simpa using hd
              have HD := Lib.hid (show letsOf [Sm.mk does ln cl name es thn els] = [] by simp [letsOf, hd])
              clear hd
              go_wp2_with (fail)
              go_roundw
              case rel => exact ⟨j + 1, by omega, by go_num, HTX.out.alloc _, by rw [HSUC.out, HD.out]; exact HCX.out.alloc _⟩
              case measure => simp [intOf]; omega
        · obtain rfl : j = l.length := by omega
          have HALL2 := Lib.hid (dropAt_all l (ckStmts l k))
          rw [HALL2.out] at HCX
          clear htx hcx
          go_wp2_with (fail)
          go_end0
          exact ⟨rfl, HTX.out, HCX.out⟩
end Go.Proofs.YtffgioifjdpajaaGreatDoor
