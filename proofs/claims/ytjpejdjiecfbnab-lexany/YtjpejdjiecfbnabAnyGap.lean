/-
  LexAny: the law's closures: blank, and gap: which place it comes to.
-/
import Derived.Test.YtjpejdjiecfbnabLexH
import Derived.Laws.EntriesVeiled
import Derived.Deep.QuietTactic
import Derived.BigQuiet
namespace Go.Proofs.Ytjpejdjiecfbnab.lexAny
open Go.ChangeShapes Go.WideShapes Go.ChangeAt Go.RowKit
set_option linter.unusedVariables false

theorem blank1_any (c : Int) (w : World) : Calls Try.prog 8 #[.int .u8 c] w fun e w' => e = .returned (.bool (blankB c)) ∧ w = w' := by
  go_enter Try.func8, Try.ntmps8
  go_wp2
  all_goals go_ret
  all_goals (refine ⟨ret_bool ?_, rfl⟩; unfold blankB; rw [Bool.eq_iff_iff]; try (first | (simp; done) | (simp; omega)))

theorem blank1_q (c : Int) (w : World) : Calls Try.prog 8 #[.int .u8 c] w fun e w' => e = .returned (.bool (blankB c)) ∧ w' = w := (blank1_any c w).mono fun _ _ ⟨h1, h2⟩ => ⟨h1, h2.symm⟩

theorem blank1_is (c : Int) (v : Bool) (hv : blankB c = v) (w : World) : Calls Try.prog 8 #[.int .u8 c] w fun e w' => e = .returned (.bool v) ∧ w' = w := by
  subst hv; exact blank1_q c w

/-- From one place to another there are gaps alone; there another gap does not begin. -/
inductive Gaps (l : List UInt8) : Nat → Nat → Prop
  | stop (i : Nat) : gapL (l.drop i) = 0 → Gaps l i i
  | step (i j : Nat) : 0 < gapL (l.drop i) → Gaps l (i + gapL (l.drop i)) j → Gaps l i j

/-- What the closure needs of memory: the place's cell, the text's, the function's. -/
structure Box (w : World) (a b f : Nat) (s : ByteArray) (i : Nat) : Prop where
  ca : w.cell? ⟨a, 0, none⟩ = some (.int .i64 i)
  fa : w.frozen? ⟨a, 0, none⟩ = false
  cb : w.cell? ⟨b, 0, none⟩ = some (.string s)
  cf : w.cell? ⟨f, 0, none⟩ = some (.func (Fn.func 8) #[] #[])
  ab : a ≠ b
  af : a ≠ f

def atOf (w : World) (a : Nat) : Nat := match w.cell? ⟨a, 0, none⟩ with | some (.int _ n) => n.toNat | _ => 0

theorem Box.put {wr : World} {a b f : Nat} {s : ByteArray} {i : Nat} (h : Box wr a b f s i) (k : Nat) : Box (wr.setCell ⟨a, 0, none⟩ (.int .i64 k)) a b f s k := by
  refine ⟨World.cell?_setCell_same _ _ _ h.ca, by rw [World.frozen?_setCell]; exact h.fa, ?_, ?_, h.ab, h.af⟩
  · rw [World.cell?_setCell_other _ _ _ _ (fun e => h.ab (by have := congrArg Addr.block e; simp at this; omega))]; exact h.cb
  · rw [World.cell?_setCell_other _ _ _ _ (fun e => h.af (by have := congrArg Addr.block e; simp at this; omega))]; exact h.cf

theorem Box.drewN {wr : World} {a b f : Nat} {s : ByteArray} {i : Nat} (h : Box wr a b f s i) (n : Nat) : Box (wr.drewN n) a b f s i := ⟨h.ca, h.fa, h.cb, h.cf, h.ab, h.af⟩
theorem grown_put {w wr : World} {a n : Nat} (h : w.grownBy wr (some a)) (v : Value) : w.grownBy ((wr.drewN n).setCell ⟨a, 0, none⟩ v) (some a) :=
  ⟨h.os, h.tape, h.output, by have := h.size; simpa using this, fun k hk hne => (Below.heap_setCell (wr.drewN n) ⟨a, 0, none⟩ v k (fun e => hne (by rw [e]))).trans (h.block k hk hne)⟩
theorem grown_put0 {w wr : World} {a : Nat} (h : w.grownBy wr (some a)) (v : Value) : w.grownBy (wr.setCell ⟨a, 0, none⟩ v) (some a) :=
  ⟨h.os, h.tape, h.output, by have := h.size; simpa using this, fun k hk hne => (Below.heap_setCell wr ⟨a, 0, none⟩ v k (fun e => hne (by rw [e]))).trans (h.block k hk hne)⟩
theorem atOf_box {wr : World} {a b f : Nat} {s : ByteArray} {i : Nat} (h : Box wr a b f s i) : atOf wr a = i := by unfold atOf; rw [h.ca]; simp

def GapPost (s : ByteArray) (a b f i : Nat) (w : World) (e : Ending) (w' : World) : Prop :=
  ∃ j, e = .returned (.tuple #[]) ∧ j ≤ s.size ∧ Gaps s.data.toList i j ∧ w.grownBy w' (some a) ∧ Box w' a b f s j

theorem blank_gap {s : ByteArray} {j : Nat} (h : j < s.size) (hb : blankB (s[j].toNat : Int) = true) : gapL (s.data.toList.drop j) = 1 := by
  rw [drop_at s j h]; simp [gapL, hb]

theorem no_gap {s : ByteArray} {j : Nat} (h : j < s.size) (hb : blankB (s[j].toNat : Int) = false) (hn : ∀ h1 : j + 1 < s.size, ¬ (((s[j].toNat : Int) == 47) = true ∧ ((s[j + 1].toNat : Int) == 47) = true)) : gapL (s.data.toList.drop j) = 0 := by
  have hp : Lib.hasPrefix (s.data.toList.drop j) [47, 47] = false := by
    rw [drop_at s j h]
    by_cases h1 : j + 1 < s.size
    · rw [drop_at s (j + 1) h1]
      have h2 := hn h1
      unfold Lib.hasPrefix
      simp only [List.isPrefixOf, Bool.and_true]
      by_cases e1 : s[j] = 47
      · by_cases e2 : s[j + 1] = 47
        · exact absurd ⟨by rw [e1]; rfl, by rw [e2]; rfl⟩ h2
        · simp; intro _ h4; exact absurd h4.symm e2
      · simp; intro h4; exact absurd h4.symm e1
    · rw [List.drop_of_length_le (by simp; omega)]
      simp [Lib.hasPrefix, List.isPrefixOf]
  rw [drop_at s j h] at hp ⊢
  simp [gapL, hb, hp]
theorem line_gap {s : ByteArray} {j : Nat} (h : j < s.size) (h1 : j + 1 < s.size) (hb : blankB (s[j].toNat : Int) = false) (e1 : ((s[j].toNat : Int) == 47) = true) (e2 : ((s[j + 1].toNat : Int) == 47) = true) :
    gapL (s.data.toList.drop j) = spanL inLineB (s.data.toList.drop j) := by
  have t1 : s[j] = 47 := by
    have : (s[j].toNat : Int) = 47 := by simpa using e1
    apply UInt8.toNat.inj; show s[j].toNat = 47; omega
  have t2 : s[j + 1] = 47 := by
    have : (s[j + 1].toNat : Int) = 47 := by simpa using e2
    apply UInt8.toNat.inj; show s[j + 1].toNat = 47; omega
  rw [drop_at s j h, drop_at s (j + 1) h1, t1, t2]
  rfl
def InLine (s : ByteArray) (j m : Nat) : Prop := ∀ q (hq : q < s.size), j ≤ q → q < m → inLineB (s[q].toNat : Int) = true
theorem span_from {s : ByteArray} {j m : Nat} (hm : m ≤ s.size) (hj : j ≤ m) (hin : InLine s j m) (hend : ∀ h : m < s.size, inLineB (s[m].toNat : Int) = false) : spanL inLineB (s.data.toList.drop j) = m - j := by
  have hlen : (s.data.toList.drop j).length = s.size - j := by simp
  have hget : ∀ q (h1 : q < (s.data.toList.drop j).length) (h2 : j + q < s.size), (s.data.toList.drop j)[q] = s[j + q] := fun q h1 h2 => by
    rw [List.getElem_drop, ← get_list]
  by_cases hlt : m < s.size
  · refine spanL_at inLineB _ (m - j) (by omega) (fun q hq => ?_) ?_
    · rw [hget q (by omega) (by omega)]; exact hin _ _ (by omega) (by omega)
    · rw [hget (m - j) (by omega) (by omega)]
      have e : j + (m - j) = m := by omega
      simp only [e]; exact hend hlt
  · have e : m = s.size := by omega
    rw [spanL_all inLineB _ (fun q hq => by rw [hget q hq (by omega)]; exact hin _ _ (by omega) (by omega)), hlen, e]

set_option maxHeartbeats 1000000 in
theorem gap9 (s : ByteArray) (h : s.size ≤ 500) (a b f i : Nat) (hi : i ≤ s.size) (w : World) (hbox : Box w a b f s i) :
    Calls Try.prog 9 #[.pointer (some ⟨a, 0, none⟩), .pointer (some ⟨b, 0, none⟩), .pointer (some ⟨f, 0, none⟩)] w (GapPost s a b f i w) := by
  have HB0 := Lib.hid hbox; clear hbox
  go_enter Try.func9, Try.ntmps9
  go_wp2_with (fail)
  go_loopw [] (fun wr => ∃ j : Nat, j ≤ s.size ∧ Box wr a b f s j ∧ w.grownBy wr (some a) ∧ ∀ q, Gaps s.data.toList j q → Gaps s.data.toList i q) (fun wr => s.size - atOf wr a)
  case atStart => exact ⟨i, hi, HB0.out, World.grownBy.refl _ _, fun q hq => hq⟩
  case round =>
    obtain ⟨j, hj, hbx, hgr, hgap⟩ := hrel
    have ca := hbx.ca; have fa := hbx.fa; have cb := hbx.cb; have cf := hbx.cf
    have HBX := Lib.hid hbx; have HGR := Lib.hid hgr; have HGP := Lib.hid hgap
    clear hbx hgr hgap
    by_cases hlt : j < s.size
    · cases hbl : blankB (s[j].toNat : Int)
      · have HBL := Lib.hid hbl
        clear hbl
        go_wp2_with (fail)
        go_quiet ((go_at_call 8; exact Calls.quiet_of_same (blank1_is _ false HBL.out _)))
        by_cases h1 : j + 1 < s.size
        · rcases Bool.eq_false_or_eq_true ((s[j].toNat : Int) == 47) with e1 | e1
          · rcases Bool.eq_false_or_eq_true ((s[j + 1].toNat : Int) == 47) with e2 | e2
            · have hline := line_gap hlt h1 HBL.out e1 e2
              have HLN := Lib.hid hline
              clear hline
              go_wp2_with (fail)
              go_loopw [] (fun wq => ∃ m : Nat, j ≤ m ∧ m ≤ s.size ∧ Box wq a b f s m ∧ w.grownBy wq (some a) ∧ InLine s j m) (fun wq => s.size - atOf wq a)
              case atStart => exact ⟨j, Nat.le_refl _, hj, HBX.out.drewN _, ⟨HGR.out.os, HGR.out.tape, HGR.out.output, HGR.out.size, HGR.out.block⟩, fun q hq h1 h2 => by omega⟩
              case round =>
                obtain ⟨m, hjm, hms, hbx2, hgr2, hin⟩ := hrel
                have ca2 := hbx2.ca; have fa2 := hbx2.fa; have cb2 := hbx2.cb
                have HBX2 := Lib.hid hbx2; have HGR2 := Lib.hid hgr2; have HIN := Lib.hid hin
                clear hbx2 hgr2 hin ca fa cb cf
                by_cases hlt2 : m < s.size
                · rcases Bool.eq_false_or_eq_true ((s[m].toNat : Int) != 10) with t1 | t1
                  · go_wp2_with (fail)
                    go_roundw
                    case rel =>
                      have e : ((m : Int) + 1) = ((m + 1 : Nat) : Int) := by omega
                      rw [e]
                      refine ⟨m + 1, by omega, by omega, HBX2.out.put _, grown_put0 HGR2.out _, fun q hq h1 h2 => ?_⟩
                      by_cases e2 : q = m
                      · subst e2; exact t1
                      · exact HIN.out q hq h1 (by omega)
                    case measure =>
                      have e : ((m : Int) + 1) = ((m + 1 : Nat) : Int) := by omega
                      rw [e, atOf_box (HBX2.out.put (m + 1)), atOf_box HBX2.out]
                      omega
                  · go_wp2_with (fail)
                    have hsp := span_from hms hjm HIN.out (fun _ => t1)
                    have hne : m ≠ j := by
                      intro e
                      subst e
                      have : (s[m].toNat : Int) = 47 := by simpa using e1
                      have h10 : (s[m].toNat : Int) = 10 := by simpa using t1
                      omega
                    have hm0 : 0 < gapL (s.data.toList.drop j) := by rw [HLN.out, hsp]; omega
                    have hm1 : j + gapL (s.data.toList.drop j) = m := by rw [HLN.out, hsp]; omega
                    refine ⟨⟨m, hms, HBX2.out, HGR2.out, fun q hq => HGP.out q (.step _ _ hm0 (by rw [hm1]; exact hq))⟩, ?_⟩
                    rw [atOf_box HBX2.out, atOf_box HBX.out]
                    omega
                · go_wp2_with (fail)
                  obtain rfl : m = s.size := by omega
                  have hsp := span_from hms hjm HIN.out (fun hh => absurd hh hlt2)
                  have hm0 : 0 < gapL (s.data.toList.drop j) := by rw [HLN.out, hsp]; omega
                  have hm1 : j + gapL (s.data.toList.drop j) = s.size := by rw [HLN.out, hsp]; omega
                  refine ⟨⟨s.size, Nat.le_refl _, HBX2.out, HGR2.out, fun q hq => HGP.out q (.step _ _ hm0 (by rw [hm1]; exact hq))⟩, ?_⟩
                  rw [atOf_box HBX2.out, atOf_box HBX.out]
                  omega
            · go_wp2_with (fail)
              go_end0
              exact ⟨j, rfl, hj, HGP.out _ (.stop _ (no_gap hlt HBL.out (fun _ hh => by rw [e2] at hh; simp at hh))), ⟨HGR.out.os, HGR.out.tape, HGR.out.output, HGR.out.size, HGR.out.block⟩, ⟨HBX.out.ca, HBX.out.fa, HBX.out.cb, HBX.out.cf, HBX.out.ab, HBX.out.af⟩⟩
          · go_wp2_with (fail)
            go_end0
            exact ⟨j, rfl, hj, HGP.out _ (.stop _ (no_gap hlt HBL.out (fun _ hh => by rw [e1] at hh; simp at hh))), ⟨HGR.out.os, HGR.out.tape, HGR.out.output, HGR.out.size, HGR.out.block⟩, ⟨HBX.out.ca, HBX.out.fa, HBX.out.cb, HBX.out.cf, HBX.out.ab, HBX.out.af⟩⟩
        · go_wp2_with (fail)
          go_end0
          exact ⟨j, rfl, hj, HGP.out _ (.stop _ (no_gap hlt HBL.out (fun hh => absurd hh h1))), ⟨HGR.out.os, HGR.out.tape, HGR.out.output, HGR.out.size, HGR.out.block⟩, ⟨HBX.out.ca, HBX.out.fa, HBX.out.cb, HBX.out.cf, HBX.out.ab, HBX.out.af⟩⟩
      · have HBL := Lib.hid hbl
        clear hbl
        go_wp2_with (fail)
        go_quiet ((go_at_call 8; exact Calls.quiet_of_same (blank1_is _ true HBL.out _)))
        go_wp2_with (fail)
        go_roundw
        case rel =>
          have e : ((j : Int) + 1) = ((j + 1 : Nat) : Int) := by omega
          rw [e]
          refine ⟨j + 1, by omega, (HBX.out.drewN _).put _, grown_put HGR.out _, fun q hq => HGP.out q (.step _ _ ?_ ?_)⟩
          · rw [blank_gap hlt HBL.out]; decide
          · rw [blank_gap hlt HBL.out]; exact hq
        case measure =>
          have e : ((j : Int) + 1) = ((j + 1 : Nat) : Int) := by omega
          rw [e, atOf_box ((HBX.out.drewN _).put (j + 1)), atOf_box HBX.out]
          omega
    · obtain rfl : s.size = j := by omega
      go_wp2_with (fail)
      go_end0
      refine ⟨s.size, rfl, Nat.le_refl _, HGP.out _ (.stop _ ?_), HGR.out, HBX.out⟩
      rw [List.drop_of_length_le (by simp)]; rfl
end Go.Proofs.Ytjpejdjiecfbnab.lexAny
