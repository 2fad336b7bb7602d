/-
  What ast's write and Text do, of every expression; the document's example.
-/
import Derived.Test.YtgnnendcgbijnaaDoorAstE
namespace Go.Proofs.YtgnnendcgbijnaaDoor
open Go.ChangeShapes Go.WideShapes Go.ChangeAt Go.RowKit
set_option linter.unusedVariables false

set_option maxHeartbeats 1000000 in
set_option maxRecDepth 100000 in
theorem write_call (line col num : Int) (name : List UInt8) (op : Int) (kids : List Ex) (ih : ∀ i (h : i < kids.length), WriteOk kids[i]) : WriteOk (.mk 5 line col num name op kids) := by
  intro cs B b l w hat hd hlen
  have HAT := Lib.hid hat
  unfold Ex.At at hat
  obtain ⟨_, _, kv, rfl, _, hk⟩ := hat
  clear hk
  have ht : (Ex.mk 5 line col num name op kids).text = name ++ [40] ++ commas (Ex.texts kids) ++ [41] := by rw [Ex.text_mk]; unfold textOf; rw [if_neg (by decide), if_neg (by decide), if_neg (by decide), if_pos rfl]
  rw [ht] at hlen ⊢
  have HD := Lib.hid hd; have HIH := Lib.hid ih; clear hd ht ih
  unfold cells7
  go_enter Tryd.func13, Tryd.ntmps13
  go_wp2_with (fail)
  refine (call_any 5 line col num name op kids HIH.out _ B b l _ (Ex.At.later (HD.out.alloc _).below _ _ HAT.out) (HD.out.wrote (HD.out.alloc _)) _ rfl hlen).mono ?_
  rintro e w' ⟨rfl, hw⟩
  have HW := Lib.hid hw; clear hw
  go_wp2_with (fail)
  go_end0
  exact ⟨rfl, (HD.out.alloc _).trans HW.out⟩

set_option maxHeartbeats 1000000 in
set_option maxRecDepth 100000 in
theorem write_pair (kind line col num : Int) (name : List UInt8) (op : Int) (kids : List Ex) (hne : 0 < kids.length) (h1 : (kind == 1) = false) (h2 : (kind == 2) = false) (h3 : (kind == 3) = false) (h4 : (kind == 4) = false) (h5 : (kind == 5) = false) (h9 : (kind == 9) = false)
    (ih : ∀ i (h : i < kids.length), WriteOk kids[i]) : WriteOk (.mk kind line col num name op kids) := by
  intro cs B b l w hat hd hlen
  have HAT := Lib.hid hat
  unfold Ex.At at hat
  obtain ⟨_, _, kv, rfl, _, hk⟩ := hat
  obtain ⟨a, cap, rfl, hmax, _⟩ := kids_at hk
  clear hk
  have hz : ((kids.length : Int) == 0) = false := beq_eq_false_iff_ne.mpr (by omega)
  have ht : (Ex.mk kind line col num name op kids).text = ([40] : List UInt8) ++ kids[0].text ++ [32] ++ betweenL kind op ++ [32] ++ kids[kids.length - 1].text ++ [41] := by
    have e0 : (Ex.texts kids).headD [] = kids[0].text := by
      rw [← Ex.texts_get kids 0 hne, List.headD_eq_head?_getD, List.head?_eq_getElem?, List.getElem?_eq_getElem (by rw [Ex.texts_length]; exact hne)]; rfl
    have e1 : (Ex.texts kids).getLastD [] = kids[kids.length - 1].text := by
      rw [← Ex.texts_get kids (kids.length - 1) (by omega), List.getLastD_eq_getLast?, List.getLast?_eq_getElem?, List.getElem?_eq_getElem (by rw [Ex.texts_length]; omega)]
      simp [Ex.texts_length]
    rw [Ex.text_mk]; unfold textOf
    rw [if_neg (by simpa using h1), if_neg (by simpa using h2), if_neg (by simpa using h3), if_neg (by simpa using h5), if_neg (by rw [texts_nil]; intro e; rw [e] at hne; simp at hne), if_neg (by simpa using h4), if_neg (by simpa using h9), e0, e1]
  rw [ht] at hlen ⊢
  have HD := Lib.hid hd; have HIH := Lib.hid ih; clear hd ht ih
  unfold cells7
  go_enter Tryd.func13, Tryd.ntmps13
  go_wp2_with (fail)
  refine (pair_any kind line col num name op kids hne (HIH.out _ _) (HIH.out _ _) _ B b l _ (Ex.At.later (HD.out.alloc _).below _ _ HAT.out) (HD.out.wrote (HD.out.alloc _)) _ rfl hlen).mono ?_
  rintro e w' ⟨rfl, hw⟩
  have HW := Lib.hid hw; clear hw
  go_wp2_with (fail)
  go_end0
  exact ⟨rfl, (HD.out.alloc _).trans HW.out⟩

theorem write_size : ∀ (n : Nat) (e : Ex), e.size ≤ n → WriteOk e := by
  intro n
  induction n with
  | zero => intro e h; cases e; simp [Ex.size] at h
  | succ n ih =>
    rintro ⟨kind, line, col, num, name, op, kids⟩ h
    have hs : Ex.sizes kids ≤ n := by simp [Ex.size] at h; omega
    have hk : ∀ i (h : i < kids.length), WriteOk kids[i] := fun i h => ih _ (Nat.le_trans (Ex.sizes_get kids i h) hs)
    by_cases h1 : kind = 1
    · subst h1; exact write_num _ _ _ _ _ _
    by_cases h2 : kind = 2
    · subst h2; exact write_truth _ _ _ _ _ _
    by_cases h3 : kind = 3
    · subst h3; exact write_var _ _ _ _ _ _
    by_cases h5 : kind = 5
    · subst h5; exact write_call _ _ _ _ _ _ hk
    by_cases h0 : kids = []
    · subst h0; exact write_none _ _ _ _ _ _ (by simpa using h1) (by simpa using h2) (by simpa using h3) (by simpa using h5)
    obtain ⟨k0, r, rfl⟩ := List.exists_cons_of_ne_nil h0
    by_cases h4 : kind = 4
    · subst h4; exact write_index _ _ _ _ _ _ _ (hk 0 (by simp))
    by_cases h9 : kind = 9
    · subst h9; exact write_not _ _ _ _ _ _ _ (hk 0 (by simp))
    exact write_pair _ _ _ _ _ _ _ (by simp) (by simpa using h1) (by simpa using h2) (by simpa using h3) (by simpa using h4) (by simpa using h5) (by simpa using h9) hk
theorem write_any (e : Ex) : WriteOk e := write_size _ e (Nat.le_refl _)

/-- The tables, where a call begins. -/
structure Ground (w : World) : Prop where
  signs : Signs w
  pow : Lib.TabIs Tryd.prog w "internal/strconv.uint64pow10" .u64 Lib.pow10Tab

set_option maxHeartbeats 1000000 in
set_option maxRecDepth 100000 in
theorem text_any (ex : Ex) (cs : Array Value) (w : World) (hg : Ground w) (hat : ex.At w (· < w.heap.size) cs) (hlen : ex.text.length ≤ 140737488355328) :
    Calls Tryd.prog 10 #[.agg cs] w fun e w' => e = .returned (.string ⟨ex.text.toArray⟩) ∧ Below w.heap.size w w' := by
  obtain ⟨kind, line, col, num, name, op, ka, kn, kc, rfl⟩ := hat.cells
  have HG := Lib.hid hg; have HAT := Lib.hid hat
  clear hg hat
  unfold cells7
  go_enter Tryd.func10, Tryd.ntmps10
  go_wp2_with (fail)
  have hw0 : w.grownBy ((w.alloc (.cells (cells7 kind line col num name op (.slice ka kn kc)) 51)).alloc (.cells #[.pointer none, .slice none 0 0] 63)) none :=
    ⟨rfl, rfl, rfl, by simp; omega, fun k hk _ => by rw [Below.heap_alloc _ _ _ (by simp; omega), Below.heap_alloc _ _ _ hk]⟩
  have hb0 := below_grown hw0 (Nat.le_refl _)
  have hd : Desk w.heap.size (w.heap.size + 1) [] ((w.alloc (.cells (cells7 kind line col num name op (.slice ka kn kc)) 51)).alloc (.cells #[.pointer none, .slice none 0 0] 63)) := by
    refine ⟨.inl ⟨by omega, .slice none 0 0, ?_, ⟨rfl, .inl ⟨rfl, rfl⟩⟩, by simp [Value.ownBlock]⟩, hw0.size, HG.out.signs.1, HG.out.signs.later HG.out.signs.1 hb0, fun w'' hb => (Lib.tabBelow_of_tabIs HG.out.pow) w'' (hb0.trans hb)⟩
    have := heap_alloc_new (w.alloc (.cells (cells7 kind line col num name op (.slice ka kn kc)) 51)) (.cells #[.pointer none, .slice none 0 0] 63)
    rwa [show (w.alloc (.cells (cells7 kind line col num name op (.slice ka kn kc)) 51)).heap.size = w.heap.size + 1 by simp] at this
  have HD := Lib.hid hd; have HB0 := Lib.hid hb0
  clear hd hb0 hw0
  refine (write_any ex _ w.heap.size (w.heap.size + 1) [] _ (Ex.At.later HB0.out _ _ HAT.out) HD.out (by simpa using hlen)).mono ?_
  rintro e w1 ⟨rfl, hw1⟩
  rw [List.nil_append] at hw1
  have HD1 := Lib.hid (HD.out.wrote hw1); have HW1 := Lib.hid hw1
  clear hw1
  go_wp2_with (fail)
  refine (Tryd.Builder_String_any_k w.heap.size (w.heap.size + 1) ex.text _ HD1.out.is HD1.out.le).mono ?_
  rintro e w2 ⟨rfl, _, hb2, _⟩
  have HB2 := Lib.hid hb2; clear hb2
  go_wp2_with (fail)
  go_ret
  exact ⟨rfl, (HB0.out.trans HW1.out.below).trans HB2.out⟩

theorem Ground.later {w w' : World} (h : Ground w) (hb : Below w.heap.size w w') : Ground w' :=
  ⟨h.signs.later h.signs.1 hb, Lib.tabBelow_of_tabIs h.pow w' hb⟩

end Go.Proofs.YtgnnendcgbijnaaDoor
