/-
  The lexer's contract at tokens one by one; head: the document's example.
-/
import Derived.Test.YteapdemofkmonaaDoorLexF
import Derived.Laws.OwnMore
import Derived.Laws.BytesArg
namespace Go.Proofs.YteapdemofkmonaaDoor
open Go.ChangeShapes Go.WideShapes Go.ChangeAt Go.RowKit
set_option linter.unusedVariables false

/-- The row's last step for a law whose arguments lie in no memory: what was there is as it was; new blocks may bear any marks. -/
theorem post_new {H : Type} {enc : TypeId × Value → H} {P : Program} {f : Func} {s : ChangeSpec} {apart fresh handsOn again : Bool} {W W' : World} {args : Array Value} {v : Value} {ds gs : List (DataW H)}
    (hW : DataW.Whole enc P f.params.toList s.vars apart W args.toList ds gs [])
    (hres : ∀ (b : Nat) (sp : Nat → Bool) (hd : Bool), DataW.TrodAll enc P W' b sp hd f.resultTypes.toList (v.resultList f.resultTypes.size) (s.fn H (ds ++ gs)).results [])
    (hargs : ∀ sp : Nat → Bool, DataW.TrodAll enc P W' 0 sp true f.params.toList args.toList (s.fn H (ds ++ gs)).args [])
    (hvars : ∀ sp : Nat → Bool, DataW.TrodVars enc P W' sp s.vars (s.fn H (ds ++ gs)).vars [])
    (hb : Below W.heap.size W W')
    (hok : ∀ (j : Nat) (t : TypeId) (r : Value), f.resultTypes[j]? = some t → (v.resultList f.resultTypes.size)[j]? = some r → Value.okWide P W' .any 0 t r) :
    s.post enc P f apart fresh handsOn again W args v W' := by
  refine ⟨ds, gs, [], [], [], [], hW, hres _ _ _, hargs _, hvars _, World.keptBut_mono (fun p hp => absurd hp List.not_mem_nil) (hb.frame (· ∈ [])), fun _ => ?_⟩
  refine ⟨hok, _, _, [], ⟨[], [], trodAll_append (hargs _) (hres _ _ _), hvars _, rfl, fun b off hp => absurd hp List.not_mem_nil, fun _ => List.nodup_nil⟩, fun p hp _ => hp⟩

def OkPost (ts : List Tok) (w : World) (e : Ending) (w' : World) : Prop :=
  ∃ g cap, e = .returned (.tuple #[.slice (some ⟨g, 0, none⟩) ts.length cap, .agg #[.int .i64 0, .int .i64 0, .int .i64 0]]) ∧ Below w.heap.size w w' ∧ w.heap.size ≤ g ∧ g < w'.heap.size ∧ ts.length ≤ cap ∧
    ∀ (i : Nat) (t : Tok), ts[i]? = some t → w'.cell? ⟨g, 5 * i, none⟩ = some (.int .i64 t.kind) ∧ w'.cell? ⟨g, 5 * i + 1, none⟩ = some (.string ⟨t.text.toArray⟩) ∧ w'.cell? ⟨g, 5 * i + 2, none⟩ = some (.int .i64 t.num) ∧
      w'.cell? ⟨g, 5 * i + 3, none⟩ = some (.int .i64 t.line) ∧ w'.cell? ⟨g, 5 * i + 4, none⟩ = some (.int .i64 t.col)

theorem flat_at : ∀ (ts : List Tok) (i : Nat) (t : Tok), ts[i]? = some t → ∀ j, j < 5 → (ts.flatMap Tok.cells)[5 * i + j]? = t.cells[j]? := by
  intro ts
  induction ts with
  | nil => intro i t h; simp at h
  | cons a r ih =>
    intro i t h j hj
    have hl : a.cells.length = 5 := rfl
    rw [List.flatMap_cons]
    cases i with
    | zero =>
      simp at h
      subst h
      rw [List.getElem?_append_left (by omega)]
      simp
    | succ i =>
      rw [List.getElem?_append_right (by omega), hl]
      have e : 5 * (i + 1) + j - 5 = 5 * i + j := by omega
      rw [e]
      exact ih i t (by simpa using h) j hj

theorem all_ok (s : ByteArray) (hs : s.size ≤ 65536) (ts : List Tok) (h : lexL s.data.toList = .ok ts) (hne : 0 < ts.length) (w : World) :
    Calls Tryd.prog 8 #[.string s] w (OkPost ts w) := by
  refine (all_any s hs w).mono ?_
  intro e w' hp
  unfold AllPost at hp
  rw [h] at hp
  obtain ⟨v, rfl, hb, hown⟩ := hp
  have hshape : ∃ g cap, v = .slice (some ⟨g, 0, none⟩) ts.length cap ∧ w.heap.size + 2 ≤ g ∧ ts.length ≤ cap := by
    rcases hown.2 with ⟨_, h1⟩ | ⟨g', cap', cur, hv, hb', _, hle, _⟩
    · omega
    · exact ⟨g', cap', hv, hb', hle⟩
  obtain ⟨g, cap, rfl, hg, hcap⟩ := hshape
  have hlt := (hown.lt g rfl).2
  refine ⟨g, cap, rfl, hb, by omega, hlt, hcap, fun i t ht => ?_⟩
  have hc := hown.cells (g := g) rfl
  have add : ∀ j, (⟨g, 0, none⟩ : Addr).add j = ⟨g, j, none⟩ := fun j => by unfold Addr.add; split <;> simp_all
  have at_ : ∀ j, j < 5 → ∀ u, t.cells[j]? = some u → w'.cell? ⟨g, 5 * i + j, none⟩ = some u := fun j hj u hu => by
    have := hc (5 * i + j) u (by rw [flat_at ts i t ht j hj]; exact hu)
    rwa [add] at this
  exact ⟨at_ 0 (by decide) _ rfl, at_ 1 (by decide) _ rfl, at_ 2 (by decide) _ rfl, at_ 3 (by decide) _ rfl, at_ 4 (by decide) _ rfl⟩
theorem all_bad (s : ByteArray) (hs : s.size ≤ 65536) (a b c : Int) (h : lexL s.data.toList = .error (a, b, c)) (w : World) :
    Calls Tryd.prog 8 #[.string s] w fun e w' => e = .returned (.tuple #[.slice none 0 0, .agg #[.int .i64 a, .int .i64 b, .int .i64 c]]) ∧ Below w.heap.size w w' := by
  refine (all_any s hs w).mono ?_
  intro e w' hp
  unfold AllPost at hp
  rw [h] at hp
  exact hp

theorem lex_head : lexL [97, 60, 61, 49] = .ok [⟨1, [97], 0, 1, 1⟩, ⟨4, [60, 61], 0, 1, 2⟩, ⟨2, [49], 1, 1, 4⟩, ⟨0, [], 0, 1, 5⟩] := by rfl

set_option maxHeartbeats 1000000 in
theorem head_any (w : World) : Calls Tryd.prog 5 #[] w fun e w' => e = .returned (.bool true) ∧ Below w.heap.size w w' := by
  go_enter Tryd.func5, Tryd.ntmps5
  go_wp2_with (fail)
  refine (all_ok _ (by decide) _ lex_head (by decide) _).mono ?_
  rintro e w1 ⟨g, cap, rfl, hb, hg1, hg2, hcap, hc⟩
  obtain ⟨a0, a1, a2, a3, a4⟩ := hc 0 _ rfl
  obtain ⟨b0, b1, b2, b3, b4⟩ := hc 1 _ rfl
  obtain ⟨c0, c1, c2, c3, c4⟩ := hc 2 _ rfl
  obtain ⟨d0, d1, d2, d3, d4⟩ := hc 3 _ rfl
  simp only [Nat.mul_zero, Nat.zero_add, Nat.mul_one, Nat.reduceMul, Nat.reduceAdd, List.length_cons, List.length_nil] at *
  clear hc
  go_wp2_with (fail)
  go_ret
  exact ⟨rfl, hb.alloc (by have := hb.size; omega) _⟩
end Go.Proofs.YteapdemofkmonaaDoor
