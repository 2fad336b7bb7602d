/-
  The parser: parameters, a function.
-/
import Derived.Test.YtgnnendcgbijnaaDoorParAA
namespace Go.Proofs.YtgnnendcgbijnaaDoor
open Go.ChangeShapes Go.WideShapes Go.ChangeAt Go.RowKit
set_option linter.unusedVariables false

def strV (x : List UInt8) : Value := .string ⟨x.toArray⟩
/-- Texts, as a slice. -/
def StrsAt (w : World) (S : Nat → Prop) (l : List (List UInt8)) (v : Value) : Prop :=
  (l = [] ∧ ∃ a cap, v = .slice a 0 cap) ∨ (l ≠ [] ∧ ∃ g o cap, v = .slice (some ⟨g, o, none⟩) l.length cap ∧ S g ∧ g < w.heap.size ∧ l.length ≤ cap ∧ l.length ≤ 4611686018427387904 ∧ ∀ j x, l[j]? = some x → w.cell? ⟨g, o + j, none⟩ = some (strV x))
theorem StrsAt.keep {w w' : World} {S S' : Nat → Prop} (hz : w.heap.size ≤ w'.heap.size) (hS : ∀ g, S g → g < w.heap.size → S' g) (hk : ∀ g, S g → g < w.heap.size → ∀ o, w'.cell? ⟨g, o, none⟩ = w.cell? ⟨g, o, none⟩) {l : List (List UInt8)} {v : Value} (h : StrsAt w S l v) : StrsAt w' S' l v := by
  rcases h with h | ⟨hne, g, o, cap, rfl, hg, hlt, h1, h2, h3⟩
  · exact .inl h
  · exact .inr ⟨hne, g, o, cap, rfl, hS g hg hlt, by omega, h1, h2, fun j x hj => (hk g hg hlt _).trans (h3 j x hj)⟩
theorem StrsAt.slice {w : World} {S : Nat → Prop} {l : List (List UInt8)} {v : Value} (h : StrsAt w S l v) : ∃ a k c, v = .slice a k c := by
  rcases h with ⟨_, a, cap, rfl⟩ | ⟨_, g, o, cap, rfl, _⟩ <;> exact ⟨_, _, _, rfl⟩
def paramsLoop : Nat → List (List UInt8) → St → List (List UInt8) × St
  | 0, ps, s => (ps, s)
  | k + 1, ps, s => if s.sees [[44]] then paramsLoop k (ps ++ [(s.next.want 1).1.text]) (s.next.want 1).2 else (ps, s)
def pParams (s : St) : List (List UInt8) × St := paramsLoop (s.want 1).2.left.length [(s.want 1).1.text] (s.want 1).2
theorem paramsLoop_neat : ∀ (k : Nat) (ps : List (List UInt8)) (s : St), Neat s (paramsLoop k ps s).2
  | 0, ps, s => .refl s
  | k + 1, ps, s => by
    rw [paramsLoop]; split
    · exact ((neat_next s).trans (neat_want _ 1)).trans (paramsLoop_neat k _ _)
    · exact .refl s
theorem params_neat (s : St) : Neat s (pParams s).2 := (neat_want s 1).trans (paramsLoop_neat _ _ _)
theorem infoStr : (Tryd.prog.info? 9).map (fun i => (i.zero, i.size, i.bytes)) = some (some (.string ⟨#[]⟩), 1, 16) := by kernel_rfl
def StrsPost (R g : Nat) (p : List (List UInt8) × St) (w : World) (e : Ending) (w' : World) : Prop := ∃ v, e = .returned v ∧ StrsAt w' (w.heap.size ≤ ·) p.1 v ∧ Went R w w' ∧ Reads R g p.2 w'
structure ParRow (R g : Nat) (N : Nat) (goal : List (List UInt8) × St) (out : Value) (w0 w : World) : Prop where
  went : Went R w0 w
  now : ∃ (k b cap : Nat) (ps : List (List UInt8)) (s : St), out = .slice (some ⟨b, 0, none⟩) ps.length cap ∧ w0.heap.size ≤ b ∧ R < w0.heap.size ∧ w.ownsRow w0.heap.size 9 1 out ps.length (ps.map strV) ∧ Reads R g s w ∧
    s.left.length ≤ k ∧ ps.length + s.left.length ≤ N + 1 ∧ ps ≠ [] ∧ paramsLoop k ps s = goal

set_option maxHeartbeats 2000000 in
set_option maxRecDepth 100000 in
theorem params_any (R g : Nat) (s : St) (w : World) (h : Reads R g s w) : Calls Tryd.prog 44 #[.pointer (some ⟨R, 0, none⟩)] w (StrsPost R g (pParams s) w) := by
  obtain ⟨i0, hi, hz⟩ := Option.map_eq_some_iff.1 infoStr
  obtain ⟨hz0, hz1, hz2⟩ : i0.zero = some (.string ⟨#[]⟩) ∧ i0.size = 1 ∧ i0.bytes = 16 := by simpa using hz
  have HI := Lib.hid hi; have HZ0 := Lib.hid hz0; have HZ1 := Lib.hid hz1; have HZ2 := Lib.hid hz2
  have HR := Lib.hid h
  have hRw := h.size
  have hlen := h.len
  clear h hz hi hz0 hz1 hz2
  go_enter Tryd.func44, Tryd.ntmps44
  go_wp2_with (fail)
  refine (want_any R g s 1 _ HR.out).mono ?_
  rintro e w1 ⟨rfl, hw1, hr1⟩
  have hz1 := hw1.size
  have hf1 := (s.want_fine 1).2
  have HAR := Lib.hid (show ParRow R g s.left.length (pParams s) (.slice (some ⟨w1.heap.size, 0, none⟩) 1 1) w (w1.alloc (.cells #[strV (s.want 1).1.text] 9)) from
    ⟨went_alloc hw1 _, (s.want 1).2.left.length, w1.heap.size, 1, [(s.want 1).1.text], (s.want 1).2, rfl, hz1, hRw,
      ⟨rfl, .inr ⟨w1.heap.size, 1, _, rfl, hz1, heap_alloc_new _ _, Nat.le_refl _, by unfold maxLen; omega, rfl, rfl⟩⟩,
      hr1.alloc _, Nat.le_refl _, by simp; omega, by simp, rfl⟩)
  clear hw1 hr1 hf1
  unfold tokAgg
  go_wp2_with (fail)
  rw [field_text]
  simp only [Result.andThen]
  rw [Oper.upon_value]
  go_wp2_with (fail)
  go_loopw [3] (fun out wr => ParRow R g s.left.length (pParams s) out w wr) (fun _ wr => lenOf wr R)
  case atStart => exact HAR.out
  case round =>
    obtain ⟨hwt, k, b, cap, ps, s2, rfl, hb0, hRw0, hown, hrd, hlk, hes, hne, hgo⟩ := hrel
    have HWT := Lib.hid hwt; have HOWN := Lib.hid hown; have HRD := Lib.hid hrd; have HGO := Lib.hid hgo; have HNE := Lib.hid hne
    have hl1 : 1 ≤ s2.left.length := by have := hrd.last.ne; cases hq : s2.left with | nil => exact absurd hq this | cons => simp
    have hbw := (hown.lt b rfl).2
    clear hwt hown hrd hgo hne HAR
    obtain ⟨k, rfl⟩ : ∃ q, k = q + 1 := ⟨k - 1, by omega⟩
    go_wp2_with (fail)
    refine (skip_any R g s2 [44] _ HRD.out).mono ?_
    rintro e' w2 ⟨rfl, hw2, hr2⟩
    have hsz2 := hw2.size
    have HW2 := Lib.hid hw2; have HR2 := Lib.hid hr2
    clear hw2 hr2
    cases hs : s2.sees [[44]]
    · have HGE := Lib.hid (show pParams s = (ps, s2) by rw [← HGO.out, paramsLoop, hs]; rfl)
      have HSK := Lib.hid (show s2.skip [44] = s2 by unfold St.skip; rw [hs]; rfl)
      clear hs
      go_wp2_with (fail)
      go_ret
      rw [HGE.out]
      have hr2 : Reads R g s2 w2 := by rw [← HSK.out]; exact HR2.out
      have hown2 := HOWN.out.kept HW2.out (.inr (by simp [Value.ownBlock]; omega))
      refine ⟨_, rfl, .inr ⟨HNE.out, b, 0, cap, rfl, hb0, by omega, ?_, by show ps.length ≤ 4611686018427387904; omega, fun j x hj => ?_⟩, HWT.out.trans HW2.out, hr2⟩
      · rcases hown2.2 with ⟨hv, _⟩ | ⟨g', cap', cur, hv, _, _, hle, _⟩
        · cases hv
        · cases hv; exact hle
      · have := hown2.cells (g := b) rfl j (strV x) (by rw [List.getElem?_map, hj]; rfl)
        rwa [Go.WideShapes.add_plain] at this
    · have hnl := next_len HRD.out hs (by decide)
      have HGE := Lib.hid (show paramsLoop k (ps ++ [(s2.next.want 1).1.text]) (s2.next.want 1).2 = pParams s by rw [← HGO.out, paramsLoop, hs]; rfl)
      have HSK := Lib.hid (show s2.skip [44] = s2.next by unfold St.skip; rw [hs]; rfl)
      clear hs
      go_wp2_with (fail)
      refine (want_any R g s2.next 1 _ (by rw [← HSK.out]; exact HR2.out)).mono ?_
      rintro e' w3 ⟨rfl, hw3, hr3⟩
      have hsz3 := hw3.size
      have hf2 := (s2.next.want_fine 1).2
      have hwb := HW2.out.trans hw3
      have hown3 := HOWN.out.kept hwb (.inr (by simp [Value.ownBlock]; omega))
      have HWB := Lib.hid hwb; have HOWN3 := Lib.hid hown3; have HR3 := Lib.hid hr3
      clear hwb hown3 hr3 hw3
      unfold tokAgg
      go_wp2_with (fail)
      rw [field_text]
      simp only [Result.andThen]
      rw [Oper.upon_value]
      go_wp2_with (first | (at_builtin; refine wpList_append_lies _ rfl _ _ 38 rfl w.heap.size 9 i0 (.string ⟨#[]⟩) 1 16 Tryd.underlying38 HI.out HZ0.out HZ1.out HZ2.out rfl (by decide) _ ps.length (ps.map strV) rfl ?hown ⟨w3.heap.size, 0, none⟩ 1 1 [strV (s2.next.want 1).1.text] rfl rfl ?hnews (by intro u hu; simp only [List.mem_singleton] at hu; subst hu; rfl) (by decide) ?h63 ?hby ?hba (w3.heap.size + 1) ?hH ?_))
      case hown => exact HOWN3.out.alloc _
      case hnews => exact cells_at _ [strV (s2.next.want 1).1.text] _ _ rfl
      case h63 => unfold maxLen; omega
      case hby => omega
      case hba => simp; omega
      case hH => simp
      intro b2 cap2 w4 hown4 hgrow4 hat4 hlt4
      have hb2 : b2 = b ∨ b2 = w3.heap.size + 1 := by rcases hat4 with h | h; exact .inl (by simpa [Value.ownBlock] using h.symm); exact .inr h
      have hgr : (w3.alloc (.cells #[strV (s2.next.want 1).1.text] 9)).grownBy w4 (some b) := hgrow4
      have hrd4 : Reads R g (s2.next.want 1).2 w4 := (HR3.out.alloc _).row' hgr (by omega)
      have hgoal : ParRow R g s.left.length (pParams s) (.slice (some ⟨b2, 0, none⟩) (ps.length + 1) cap2) w w4 := by
        refine ⟨went_row ((HWT.out.trans HWB.out).trans (went_none (grown_alloc _ _))) hgr hb0, k, b2, cap2, ps ++ [(s2.next.want 1).1.text], (s2.next.want 1).2, by simp, by omega, hRw0, ?_, hrd4, by omega, by simp; omega, by simp, HGE.out⟩
        rw [List.map_append, List.length_append]
        exact hown4
      have hlen4 : lenOf w4 R = (s2.next.want 1).2.left.length := lenOf_reads hrd4
      have HGOAL := Lib.hid hgoal; have HL4 := Lib.hid hlen4
      clear hgoal hlen4 hrd4 hgr hgrow4 hown4 hat4 hb2
      go_wp2_with (fail)
      go_roundw
      case rel => exact HGOAL.out
      case measure => rw [HL4.out, lenOf_reads HRD.out]; omega
end Go.Proofs.YtgnnendcgbijnaaDoor
