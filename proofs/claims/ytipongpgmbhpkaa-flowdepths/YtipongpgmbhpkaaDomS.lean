/-
  dom: Of.
-/
import Derived.Test.YtipongpgmbhpkaaDomR
namespace Go.Proofs.Ytipongpgmbhpkaa
open Go.ChangeShapes Go.WideShapes Go.ChangeAt Go.RowKit
set_option linter.unusedVariables false

theorem RowAt.mono {B B' : Nat} {w : World} {v : Value} {xs : List Int} (h : RowAt B w v xs) (hB : B ≤ B') : RowAt B' w v xs := by
  rcases h.lies with h1 | ⟨b, off, cap, h1, h2, h3, h4⟩
  · exact ⟨.inl h1⟩
  · exact ⟨.inr ⟨b, off, cap, h1, by omega, h3, h4⟩⟩
theorem OutsAt.mono {B B' : Nat} {w : World} {b off cap : Nat} {outs : List (List Int)} (h : OutsAt B w b off cap outs) (hB : B ≤ B') : OutsAt B' w b off cap outs :=
  ⟨Nat.lt_of_lt_of_le h.low hB, h.lt, fun i xs hi => by obtain ⟨v, h1, h2⟩ := h.rows i xs hi; exact ⟨v, h1, h2.mono hB⟩⟩
theorem own_form {B : Nat} {w : World} {e : TypeId} {n : Nat} {v : Value} {xs : List Value} (h : w.ownsRow B e 1 v n xs) : ∃ a c, v = .slice a n c := by
  rcases own_slice h with ⟨h0, h1⟩ | ⟨g, c, h0, _⟩
  · exact ⟨none, 0, by rw [h0, h1]⟩
  · exact ⟨_, _, h0⟩
/-- A tree as the two rows that the call has made. -/
def OfPost (t : Tr) (m : Nat) (w : World) (e : Ending) (w' : World) : Prop :=
  ∃ tv uv, e = .returned (.agg #[tv, uv]) ∧ Below w.heap.size w w' ∧ w'.ownsRow w.heap.size 3 1 tv m (t.place.map iV) ∧ w'.ownsRow w.heap.size 3 1 uv m (t.size.map iV) ∧ (∀ q, tv.ownBlock = some q → uv.ownBlock ≠ some q)
set_option maxHeartbeats 4000000 in
set_option maxRecDepth 100000 in
theorem of_any {w : World} {outs : List (List Int)} (hne : outs ≠ []) {b off cap : Nat} (hat : OutsAt w.heap.size w b off cap outs) (hn : outs.length ≤ 1000000) (he : edges outs ≤ 1000000) (hlow : Low (aboveL (walkedL outs)) (walkedL outs).par.length) :
    Calls Try.prog 19 #[.slice (some ⟨b, off, none⟩) outs.length cap] w (OfPost (ofL outs) outs.length w) := by
  have HAT := Lib.hid hat; have HNE := Lib.hid hne; have HLOW := Lib.hid hlow
  have hpos : 0 < outs.length := List.length_pos_iff.2 hne
  obtain ⟨n, hnn⟩ : ∃ n, n = outs.length := ⟨_, rfl⟩
  have HN := Lib.hid hnn
  have q0 : ((n : Int) == 0) = false := by simp; omega
  have q1 : ¬ ((n : Int) = 0) := by omega
  have q2 : ¬ (n = 0) := by omega
  rw [← hnn]
  clear hat hne hlow hnn
  go_enter Try.func19, Try.ntmps19
  go_upto_region 3 with (fail)
  clear q0 q1 q2
  have hb0 : Below w.heap.size w (w.alloc (.cells #[.slice none 0 0, .slice none 0 0] 53 (0, 0))) := (Below.refl _ _).alloc (Nat.le_refl _) _
  have HR0 := Lib.hid (alloc_at w (.cells #[.slice none 0 0, .slice none 0 0] 53 (0, 0)) w.heap.size rfl)
  have HB0 := Lib.hid hb0
  have hz0 : w.heap.size + 1 = (w.alloc (.cells #[.slice none 0 0, .slice none 0 0] 53 (0, 0))).heap.size := by simp
  have HZ0 := Lib.hid hz0
  change Code.wp _ _ _ _ (w.alloc (.cells #[.slice none 0 0, .slice none 0 0] 53 (0, 0)))
  clear hb0 hz0
  generalize w.alloc (.cells #[.slice none 0 0, .slice none 0 0] 53 (0, 0)) = w0 at *
  have HAT0 := Lib.hid ((HAT.out.below HB0.out).mono (B' := w0.heap.size) (by have := HZ0.out; omega))
  have HWD := Lib.hid (walked_any HNE.out (b := b) (off := off) (cap := cap) HAT0.out hn he)
  rw [← HN.out] at HWD
  obtain ⟨k1, k2, k3, k4, k5, k6⟩ := walkedL_ok HNE.out
  have K1 := Lib.hid k1; have K2 := Lib.hid k2; have K3 := Lib.hid k3; have K4 := Lib.hid k4; have K5 := Lib.hid k5; have K6 := Lib.hid k6
  clear k1 k2 k3 k4 k5 k6
  go_upto_region 4 with (go_at_call 23; refine HWD.out.mono ?_; rintro e w2 ⟨nv, pv, iv, hs, rfl, hb2, hw2⟩)
  have HB2 := Lib.hid hb2; have HW2 := Lib.hid hw2
  clear hb2 hw2 HWD
  have HAB := Lib.hid (above_any HW2.out K1.out K2.out (n := (walkedL outs).par.length) rfl K6.out (by have := K4.out; omega) (fun r hr => by have := K5.out r hr; omega))
  have HTREE := Lib.hid (fun (w3 : World) (hw3 : WalkAt w0.heap.size w3 (w0.heap.size + 1) nv pv iv hs (walkedL outs) []) (B1 : Nat) (av : Value) (ha : w3.ownsRow B1 3 1 av (walkedL outs).par.length ((aboveL (walkedL outs)).map iV)) => tree_any hw3 K1.out rfl ha HLOW.out K6.out (by have := K4.out; omega) (by rw [K3.out]; exact hn))
  go_wp2_with (first | (go_at_call 25; refine HAB.out.mono ?_; rintro e w3 ⟨ov, rfl, hb3, ho3⟩; have HB3 := Lib.hid hb3; have HO3 := Lib.hid ho3; clear hb3 ho3) | (go_at_call 24; refine (HTREE.out w3 (HW2.out.below HB3.out) _ _ HO3.out).mono ?_; rintro e w4 ⟨tv, uv, rfl, hb4, hp4, hq4, hne4⟩; have HNE4 := Lib.hid hne4; clear hne4; obtain ⟨ta, tc, rfl⟩ := own_form hp4; obtain ⟨ua, uc, rfl⟩ := own_form hq4; have HB4 := Lib.hid hb4; have HP4 := Lib.hid hp4; have HQ4 := Lib.hid hq4; have hres := (hb4.block w.heap.size (by have := HB3.out.size; have := HB2.out.size; have := HZ0.out; omega)).trans ((HB3.out.block w.heap.size (by have := HB2.out.size; have := HZ0.out; omega)).trans ((HB2.out.block w.heap.size (by have := HZ0.out; omega)).trans HR0.out)); obtain ⟨⟨z0, z1⟩, zf, zl⟩ := tbox hres; have z2 := zf 0; have z3 := zf 1; have HRES := Lib.hid hres; clear hb4 hp4 hq4 hres zf))
  go_wp2_with (fail)
  have hres := HRES.out
  have hfin : ((w4.setCell ⟨w.heap.size, 0, none⟩ (.slice ta (walkedL outs).num.length tc)).setCell ⟨w.heap.size, 1, none⟩ (.slice ua (walkedL outs).num.length uc)).heap[w.heap.size]? = some (.cells #[.slice ta (walkedL outs).num.length tc, .slice ua (walkedL outs).num.length uc] 53 (0, 0)) := by rw [set_block _ _ _ _ _ _ (set_block _ _ _ _ _ _ hres)]; rfl
  obtain ⟨⟨y0, y1⟩, _, _⟩ := tbox hfin
  refine bodyPost_ret (v := .agg #[.slice ta (walkedL outs).num.length tc, .slice ua (walkedL outs).num.length uc]) (by simp [results, Try.results19, go_sem, y0, y1]) rfl ?_
  have key : ∀ {v : Value} {xs : List Value} {l : Nat}, w4.ownsRow w3.heap.size 3 1 v l xs → ((w4.setCell ⟨w.heap.size, 0, none⟩ (.slice ta (walkedL outs).num.length tc)).setCell ⟨w.heap.size, 1, none⟩ (.slice ua (walkedL outs).num.length uc)).ownsRow w.heap.size 3 1 v l xs := by
    intro v xs l ho
    refine own_mono (own_keep ho (fun b hb => ?_)) ?_
    · have hne : b ≠ w.heap.size := fun e => by
        subst e
        exact ne_type ho hres (by decide) hb rfl
      exact (Below.heap_setCell _ _ _ _ hne).trans (Below.heap_setCell _ _ _ _ hne)
    · have := HB3.out.size; have := HB2.out.size; have := HZ0.out; omega
  have hof : ofL outs = treeL (walkedL outs) (aboveL (walkedL outs)) := by
    cases outs with
    | nil => exact absurd rfl HNE.out
    | cons r rs => rfl
  have hBw : Below w.heap.size w w4 := HB0.out.trans ((HB2.out.mono (by have := HZ0.out; omega)).trans ((HB3.out.mono (by have := HB2.out.size; have := HZ0.out; omega)).trans (HB4.out.mono (by have := HB3.out.size; have := HB2.out.size; have := HZ0.out; omega))))
  have h1 := key HP4.out
  have h2 := key HQ4.out
  have hl : (walkedL outs).num.length = n := K3.out.trans HN.out.symm
  refine ⟨_, _, rfl, below_put (below_put hBw (Nat.le_refl _) _ _) (Nat.le_refl _) _ _, ?_, ?_, HNE4.out⟩
  · rw [hof, ← hl]; exact h1
  · rw [hof, ← hl]; exact h2
end Go.Proofs.Ytipongpgmbhpkaa
