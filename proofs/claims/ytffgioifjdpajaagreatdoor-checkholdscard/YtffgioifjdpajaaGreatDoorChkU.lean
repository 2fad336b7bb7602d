/-
  The laws of layer 5: the document's example.
-/
import Derived.Test.YtffgioifjdpajaaGreatDoorChkT
namespace Go.Proofs.YtffgioifjdpajaaGreatDoor
open Go.ChangeShapes Go.WideShapes Go.ChangeAt Go.RowKit
set_option linter.unusedVariables false

def headA : List UInt8 := [102, 117, 110, 99, 32, 109, 97, 105, 110, 40, 41, 32, 123, 32, 114, 101, 116, 117, 114, 110, 32, 120, 59, 32, 125]
def headB : List UInt8 := [118, 97, 114, 32, 97, 59, 32, 102, 117, 110, 99, 32, 109, 97, 105, 110, 40, 41, 32, 123, 32, 114, 101, 116, 117, 114, 110, 32, 97, 59, 32, 125]
theorem headA_fit : prFit (parseL headA).1 = true := by kernel_rfl
theorem headB_fit : prFit (parseL headB).1 = true := by kernel_rfl
theorem headA_tx : ckTx headA = (21, 1, 22) := by kernel_rfl
theorem headB_tx : ckTx headB = (0, 0, 0) := by kernel_rfl
theorem headB_err : (ckProg (parseL headB).1).err = 0 := by kernel_rfl
theorem headB_g : nsize (ckProg (parseL headB).1).gm = 1 := by kernel_rfl
theorem headB_f : nsize (ckProg (parseL headB).1).fm = 1 := by kernel_rfl
set_option maxHeartbeats 4000000 in
set_option maxRecDepth 100000 in
theorem head_any (w : World) (hg : Ground w) : Calls Tryz.prog 10 #[] w fun e w' => e = .returned (.bool true) ∧ w.grownBy w' none := by
  have HG := Lib.hid hg
  clear hg
  go_enter Tryz.func10, Tryz.ntmps10
  go_wp2_with (fail)
  refine (text_any ⟨headA.toArray⟩ (by decide) (fun _ => headA_fit) _ HG.out).mono ?_
  rintro e w1 ⟨cs, i1, i2, rfl, hg1, hp1⟩
  have hl1 : (⟨headA.toArray⟩ : ByteArray).data.toList = headA := rfl
  rw [hl1, headA_tx] at hp1
  rw [hl1, headA_tx]
  rw [if_neg (by decide)] at hp1
  obtain ⟨rfl, rfl, rfl⟩ := hp1
  have HG1 := Lib.hid hg1
  clear hg1 hl1
  unfold zeroP
  go_wp2_with (fail)
  have hg2 : w1.grownBy (((w1.alloc (.cells #[.slice none 0 0, .slice none 0 0] 25)).alloc (.cells #[.map none, .map none] 30)).alloc (.cells #[.int .i64 21, .int .i64 1, .int .i64 22] 35)) none := grown_trans (grown_trans (grown_alloc _ _) (grown_alloc _ _)) (grown_alloc _ _)
  have hb2 : (((w1.alloc (.cells #[.slice none 0 0, .slice none 0 0] 25)).alloc (.cells #[.map none, .map none] 30)).alloc (.cells #[.int .i64 21, .int .i64 1, .int .i64 22] 35)).heap[w1.heap.size + 1 + 1]? = some (.cells #[.int .i64 21, .int .i64 1, .int .i64 22] 35 (0, 0)) := alloc_at _ _ _ (by simp)
  generalize (((w1.alloc (.cells #[.slice none 0 0, .slice none 0 0] 25)).alloc (.cells #[.map none, .map none] 30)).alloc (.cells #[.int .i64 21, .int .i64 1, .int .i64 22] 35)) = W at *
  have HG2 := Lib.hid (grown_trans HG1.out hg2); have HB2 := Lib.hid hb2
  clear hg2 hb2
  refine (text_any ⟨headB.toArray⟩ (by decide) (fun _ => headB_fit) _ (HG.out.more HG2.out)).mono ?_
  rintro e w3 ⟨cs, i1, i2, rfl, hg3, hp3⟩
  have hl3 : (⟨headB.toArray⟩ : ByteArray).data.toList = headB := rfl
  rw [hl3, headB_tx] at hp3
  rw [hl3, headB_tx]
  rw [if_pos rfl] at hp3
  obtain ⟨hat, hin⟩ := hp3
  obtain ⟨a1, a2, a3, b1, b2, b3, rfl⟩ := hat.cells
  unfold InfoAt at hin
  rw [if_pos headB_err] at hin
  obtain ⟨G, F, rfl, rfl, hn1, hn2⟩ := hin
  have hb3 := (hg3.block _ (Array.getElem?_eq_some_iff.1 HB2.out).1 (by simp)).trans HB2.out
  have HG3 := Lib.hid (grown_trans HG2.out hg3)
  have hlt : w1.heap.size + 1 + 1 < w3.heap.size := (Array.getElem?_eq_some_iff.1 hb3).1
  have HB3 := Lib.hid hb3
  clear hg3 hb3 hat hl3
  go_upto_region 3 with (fail)
  have hg4 : w3.grownBy (((w3.alloc (.cells #[.slice a1 a2 a3, .slice b1 b2 b3] 25)).alloc (.cells #[.map (some G), .map (some F)] 30)).alloc (.cells #[.int .i64 0, .int .i64 0, .int .i64 0] 35)) none := grown_trans (grown_trans (grown_alloc _ _) (grown_alloc _ _)) (grown_alloc _ _)
  have c1 := Lib.hid ((hg4.block _ hlt (by simp)).trans HB3.out)
  have c2 : (((w3.alloc (.cells #[.slice a1 a2 a3, .slice b1 b2 b3] 25)).alloc (.cells #[.map (some G), .map (some F)] 30)).alloc (.cells #[.int .i64 0, .int .i64 0, .int .i64 0] 35)).heap[w3.heap.size + 1]? = some (.cells #[.map (some G), .map (some F)] 30 (0, 0)) := alloc_past _ _ _ _ (by simp) (alloc_at _ _ _ (by simp))
  have c3 : (((w3.alloc (.cells #[.slice a1 a2 a3, .slice b1 b2 b3] 25)).alloc (.cells #[.map (some G), .map (some F)] 30)).alloc (.cells #[.int .i64 0, .int .i64 0, .int .i64 0] 35)).heap[w3.heap.size + 1 + 1]? = some (.cells #[.int .i64 0, .int .i64 0, .int .i64 0] 35 (0, 0)) := alloc_at _ _ _ (by simp)
  have l1 := (hn1.keep (hg4.block _ hn1.lt (by simp))).len uMapI 3
  have l2 := (hn2.keep (hg4.block _ hn2.lt (by simp))).len uMapI 3
  rw [headB_g] at l1
  rw [headB_f] at l2
  have HG4 := Lib.hid (grown_trans HG3.out hg4)
  clear hn1 hn2 hg4
  generalize (((w3.alloc (.cells #[.slice a1 a2 a3, .slice b1 b2 b3] 25)).alloc (.cells #[.map (some G), .map (some F)] 30)).alloc (.cells #[.int .i64 0, .int .i64 0, .int .i64 0] 35)) = W4 at *
  obtain ⟨⟨x0, x1, x2⟩, _, _, _⟩ := three c1.out
  obtain ⟨⟨y0, y1⟩, _, _⟩ := two c2
  obtain ⟨⟨z0, z1, z2⟩, _, _, _⟩ := three c3
  clear c2 c3 c1
  go_wp2_with (fail)
  go_ret
  exact ⟨rfl, HG4.out⟩
/-- What the laws ask of Text: its fault. -/
def FaultPost (x : Int × Int × Int) (w : World) (e : Ending) (w' : World) : Prop := ∃ a1 a2 a3 b1 b2 b3 m1 m2, e = .returned (.tuple #[.agg #[.slice a1 a2 a3, .slice b1 b2 b3], .agg #[.map m1, .map m2], .agg #[.int .i64 x.1, .int .i64 x.2.1, .int .i64 x.2.2]]) ∧ w.grownBy w' none
theorem text_fault (s : ByteArray) (hs : s.size ≤ 65536) (l : List UInt8) (hl : s.data.toList = l) (hfit : prFit (parseL l).1 = true) (w : World) (hg : Ground w) : Calls Tryz.prog 16 #[.string s] w (FaultPost (ckTx l) w) := by
  subst hl
  refine (text_any s hs (fun _ => hfit) w hg).mono ?_
  rintro e w' ⟨cs, i1, i2, rfl, hgr, hp⟩
  split at hp
  · rename_i he
    obtain ⟨hat, hin⟩ := hp
    obtain ⟨a1, a2, a3, b1, b2, b3, rfl⟩ := hat.cells
    unfold InfoAt at hin
    split at hin
    · obtain ⟨G, F, rfl, rfl, _⟩ := hin
      exact ⟨_, _, _, _, _, _, _, _, rfl, hgr⟩
    · obtain ⟨rfl, rfl⟩ := hin
      exact ⟨_, _, _, _, _, _, _, _, rfl, hgr⟩
  · obtain ⟨rfl, rfl, rfl⟩ := hp
    exact ⟨_, _, _, _, _, _, _, _, rfl, hgr⟩
end Go.Proofs.YtffgioifjdpajaaGreatDoor
