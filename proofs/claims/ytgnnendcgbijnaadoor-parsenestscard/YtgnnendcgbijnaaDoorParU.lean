/-
  The parser: what stands behind else, over what a block and a choice are.
-/
import Derived.Test.YtgnnendcgbijnaaDoorParT
namespace Go.Proofs.YtgnnendcgbijnaaDoor
open Go.ChangeShapes Go.WideShapes Go.ChangeAt Go.RowKit
set_option linter.unusedVariables false

def ifL : List UInt8 := [105, 102]
def pOther (blk : St → List Sm × St) (ch : ParS) : St → List Sm × St := fun s => if s.sees [ifL] then ([(ch s.enter).1], (ch s.enter).2.leave) else blk s
/-- What choice promises. -/
def ChoiceOk (R g n : Nat) (par : ParS) : Prop := ∀ (s : St) (w : World), Good s → s.next.left.length ≤ n → s.next.deep + 2 * s.next.left.length + 1 ≤ 300000 → Reads R g s w →
  Calls Tryd.prog 69 #[.pointer (some ⟨R, 0, none⟩)] w (SmPost R g (par s) w)
theorem enter_next {R g : Nat} {s : St} {w : World} {xs : List (List UInt8)} (h : Reads R g s w) (hg : Good s) (hs : s.sees xs = true) (hx : [] ∉ xs) : s.enter.next.left.length + 1 ≤ s.left.length ∧ s.enter.next.deep = s.deep + 1 := by
  have h1 := next_len h hs hx
  have h2 := s.enter.next_fine
  have h3 := s.enter_fine
  have h4 : 1 ≤ s.next.left.length := by
    have hk : s.now.kind ≠ 0 := fun hk => hx (by
      have := (now_ok h).1 hk
      unfold St.sees at hs
      rw [this] at hs
      exact of_decide_eq_true hs)
    obtain ⟨t, r, e⟩ := List.exists_cons_of_ne_nil h.last.ne
    have hn : s.now = t := by unfold St.now; rw [e]; rfl
    have := LastEnd.two (t := t) (r := r) (by rw [← e]; exact h.last) (by rw [← hn]; exact hk)
    unfold St.next; rw [if_neg hk, e]
    show 1 ≤ r.length
    cases r with
    | nil => exact absurd rfl this
    | cons => simp
  refine ⟨?_, by rw [h2.1, h3.1]⟩
  rcases St.enter_or hg (by omega) with h5 | h5
  · omega
  · have h6 : s.enter.now = s.now := by unfold St.now; rw [h5]
    have h7 : s.enter.next.left = s.next.left := by unfold St.next; rw [h6, h5]; split <;> simp [h5]
    rw [h7]; omega
def FineS (n : Nat) (par : ParS) : Prop := ∀ s : St, s.left.length ≤ n → (par s).2.deep = s.deep ∧ (par s).2.left.length ≤ s.left.length
theorem body_one {w : World} {S : Nat → Prop} {k : Nat} {a : Sm} {ca : Array Value} (hk : S k) (h : w.heap[k]? = some (.cells ca 45 (0, 0))) (ha : a.At w S ca) : BodyAt w S [a] (.slice (some ⟨k, 0, none⟩) 1 1) := by
  obtain ⟨_, _, _, _, _, _, _, _, _, _, _, _, _, rfl⟩ := ha.cells
  refine .inr ⟨by simp, k, 0, 1, rfl, hk, Nat.le_refl _, by simp, ?_⟩
  unfold Sm.Row
  refine ⟨⟨_, ha, fun j hj => ?_⟩, by unfold Sm.Row; trivial⟩
  rw [Lib.cell_of_heap h, Nat.zero_add]

set_option maxHeartbeats 2000000 in
set_option maxRecDepth 100000 in
theorem otherwise_any {R g n : Nat} {blk : St → List Sm × St} {ch : ParS} (hb : BlockOk R g (n + 1) 45 blk) (hc : ChoiceOk R g n ch) (hf : FineS (n + 1) ch) : OtherOk R g (n + 1) (pOther blk ch) := by
  intro s w hgd hl hd h
  have HB := Lib.hid hb; have HC := Lib.hid hc; have HF := Lib.hid hf; have HR := Lib.hid h
  have hRw := h.size
  have hd0 := h.deep
  clear hb hc hf h
  go_enter_defers Tryd.func80, Tryd.ntmps80
  go_wp2_with (fail)
  generalize hW : w.alloc (.cells #[.string ⟨#[105, 102]⟩] 9) = W
  have hg : w.grownBy W none := by rw [← hW]; exact grown_alloc _ _
  have hmk : Marks W w.heap.size [ifL] := by rw [← hW]; exact marks_of (alloc_at _ _ _ rfl)
  have hsz : W.heap.size = w.heap.size + 1 := by rw [← hW]; simp
  clear hW
  refine (sees_any R g s w.heap.size 1 [ifL] (by decide) W (HR.out.more hg) hmk (by omega)).mono ?_
  rintro e w1 ⟨rfl, hg1⟩
  have hz1 := hg1.size
  have HG := Lib.hid (grown_trans hg hg1)
  clear hg hmk hg1
  cases hs : s.sees [ifL]
  · have HV := Lib.hid (show pOther blk ch s = blk s by unfold pOther; rw [if_neg (by rw [hs]; decide)])
    clear hs
    go_wp2_with (fail)
    refine (HB.out s _ hgd hl (by omega) (HR.out.more HG.out)).mono ?_
    rintro e w2 ⟨v, rfl, hbody, hw2, hr2⟩
    have HBO := Lib.hid hbody; have HW2 := Lib.hid hw2; have HR2 := Lib.hid hr2
    clear hbody hw2 hr2
    go_wp2_with (fail)
    refine ⟨_, results_tmp rfl _ _ _, ?_⟩
    rw [HV.out]
    refine ⟨_, rfl, HBO.out.keep (fun q hq _ => by have h9 : w1.heap.size ≤ q := hq; omega) (fun _ _ _ _ => rfl), (went_none HG.out).trans HW2.out, HR2.out⟩
  · have HV := Lib.hid (show pOther blk ch s = ([(ch s.enter).1], (ch s.enter).2.leave) by unfold pOther; rw [if_pos hs])
    have hen := enter_next HR.out hgd hs (by decide)
    clear hs
    have hef := s.enter_fine
    go_wp2_with (fail)
    refine (enter_any R g s _ (HR.out.more HG.out) (by omega)).mono ?_
    rintro e w2 ⟨rfl, hw2, hr2⟩
    have hz2 := hw2.size
    have HW2 := Lib.hid hw2; have HR2 := Lib.hid hr2
    clear hw2 hr2
    go_wp2_with (fail)
    refine (HC.out s.enter _ (St.enter_good hgd) (by omega) (by omega) HR2.out).mono ?_
    rintro e w3 ⟨cs, rfl, hat, hw3, hr3⟩
    obtain ⟨q1, q2, q3, q4, q5, q6, q7, q8, q9, q10, q11, q12, q13, rfl⟩ := hat.cells
    have hz3 := hw3.size
    have HAT := Lib.hid hat; have HW3 := Lib.hid hw3; have HR3 := Lib.hid hr3
    clear hat hw3 hr3
    unfold cellsS
    go_wp2_with (fail)
    have hrD := HR3.out.alloc (.cells (cellsS q1 q2 q3 q4 (.slice q5 q6 q7) (.slice q8 q9 q10) (.slice q11 q12 q13)) 45)
    have hfc := HF.out s.enter (by omega)
    have hdp : (ch s.enter).2.deep = s.deep + 1 := by rw [hfc.1, hef.1]
    refine leaves_cons (f := 57) (args := #[.pointer (some ⟨R, 0, none⟩)]) (by simp) (by simp [go_sem]) ?_
    refine (leave_d R g _ .returning _ hrD (by omega)).mono ?_
    rintro e u' w'' ⟨rfl, rfl, rfl⟩
    refine ⟨_, results_tmp rfl _ _ _, ?_⟩
    rw [HV.out]
    refine ⟨_, rfl, body_one (k := w3.heap.size) (by show w.heap.size ≤ w3.heap.size; omega) ((Below.heap_setCell _ _ _ _ (by show w3.heap.size ≠ R; omega)).trans (alloc_at _ _ _ rfl)) ?_, (((went_none HG.out).trans HW2.out).trans HW3.out).trans (went_setR (went_none (grown_alloc _ _)) _ _), hrD.put1 _ (by omega)⟩
    refine Sm.At.keep (fun q hq _ => by have h9 : w2.heap.size ≤ q := hq; omega) (fun q hq hlt o => ?_) _ _ HAT.out
    have h9 : w2.heap.size ≤ q := hq
    rw [World.cell?_of_block (Below.heap_setCell _ _ _ _ (by show q ≠ R; omega)), World.cell?_of_block (Below.heap_alloc _ _ _ hlt)]
end Go.Proofs.YtgnnendcgbijnaaDoor
