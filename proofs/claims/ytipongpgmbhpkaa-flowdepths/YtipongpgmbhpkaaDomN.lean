/-
  dom: the walk, as a function of lists: numbers that are told lie ahead.
-/
import Derived.Test.YtipongpgmbhpkaaDomL
namespace Go.Proofs.Ytipongpgmbhpkaa
set_option linter.unusedVariables false

theorem gi_nat (l : List Int) (v : Nat) : gi l (v : Int) = l.getD v 0 := by unfold gi; rw [Int.toNat_natCast]
structure Wk.ok2 (s : Wk) : Prop where
  par : ∀ (v : Nat) (y : Int), s.par[v]? = some y → 0 < v → 0 ≤ y ∧ y < (v : Int)
  ins : ∀ r ∈ s.ins, ∀ y ∈ r, 0 ≤ y ∧ y < (s.par.length : Int)
structure WS.ok2 (x : WS) : Prop where
  pnum : ∀ b ∈ x.path, 0 ≤ gi x.s.num b
  wk : x.s.ok2
theorem way_ok2 {s : Wk} (h : s.ok2) (v : Nat) {x : Int} (hx : 0 ≤ x ∧ x < (s.par.length : Int)) : (s.way v x).ok2 := by
  refine ⟨h.par, fun r hr y hy => ?_⟩
  unfold Wk.way at hr
  dsimp only at hr
  rcases List.mem_or_eq_of_mem_set hr with hr | rfl
  · exact h.ins r hr y hy
  · rcases List.mem_append.1 hy with hy | hy
    · rcases Nat.lt_or_ge v s.ins.length with hv | hv
      · rw [List.getD_eq_getElem?_getD, List.getElem?_eq_getElem hv] at hy
        exact h.ins _ (List.getElem_mem hv) y hy
      · rw [List.getD_eq_getElem?_getD, List.getElem?_eq_none hv] at hy
        simp at hy
    · obtain rfl := List.mem_singleton.1 hy
      exact hx
theorem meet_ok2 {s : Wk} (h : s.ok2) (t : Nat) {x : Int} (hx : s.par.length = 0 ∨ (0 ≤ x ∧ x < (s.par.length : Int))) : (s.meet t x).ok2 := by
  refine ⟨fun v y hv h0 => ?_, fun r hr y hy => ?_⟩
  · unfold Wk.meet at hv
    dsimp only at hv
    rcases Nat.lt_trichotomy v s.par.length with hlt | rfl | hgt
    · rw [List.getElem?_append_left hlt] at hv
      exact h.par v y hv h0
    · rw [List.getElem?_append_right (Nat.le_refl _), Nat.sub_self] at hv
      simp only [List.getElem?_cons_zero, Option.some.injEq] at hv
      subst hv
      rcases hx with hx | hx
      · omega
      · exact hx
    · rw [List.getElem?_eq_none (by simp; omega)] at hv; cases hv
  · have hl : (s.meet t x).par.length = s.par.length + 1 := by unfold Wk.meet; simp
    rw [hl]
    rcases List.mem_append.1 hr with hr | hr
    · have := h.ins r hr y hy
      omega
    · obtain rfl := List.mem_singleton.1 hr
      cases hy
theorem goes_ok2 {s : Wk} (h : s.ok2) (f t : Nat) (hf : 0 ≤ gi s.num f ∧ gi s.num f < (s.par.length : Int)) (htl : t < s.num.length) : (s.goes f t).ok2 := by
  have hg : s.num.getD f 0 = gi s.num f := (gi_nat _ _).symm
  unfold Wk.goes
  split
  · rename_i hn
    have e : s.num.getD t 0 = -1 := of_decide_eq_true hn
    rw [hg]
    have h1 := meet_ok2 h t (x := gi s.num f) (.inr hf)
    refine way_ok2 h1 _ ?_
    have hl : (s.meet t (gi s.num f)).par.length = s.par.length + 1 := by unfold Wk.meet; simp
    have e2 : (s.num.set t (s.par.length : Int)).getD f 0 = gi (s.num.set t (s.par.length : Int)) (f : Int) := (gi_nat _ _).symm
    rw [hl, e2, gi_set htl _ _ (by omega)]
    split <;> omega
  · rw [hg]
    exact way_ok2 h _ hf
theorem WS.ok2.step {outs : List (List Int)} {x : WS} (h : x.ok outs) (h2 : x.ok2) (hp : x.path ≠ []) : (x.step outs).ok2 := by
  have hl := last_mem hp
  obtain ⟨b0, b1⟩ := h.pin _ hl
  have hpn := h2.pnum _ hl
  obtain ⟨b, hb⟩ : ∃ b : Nat, x.path.getLastD 0 = b := ⟨(x.path.getLastD 0).toNat, by omega⟩
  rw [hb] at b0 b1 hpn
  have hbl : b < x.s.num.length := by rw [h.nl]; omega
  have hnb : gi x.s.num b < (x.s.par.length : Int) := by
    rcases h.sok.1 _ (gi_mem hbl) with e | e <;> omega
  unfold WS.step
  dsimp only
  rw [hb, Int.toNat_natCast]
  split
  · exact ⟨fun c hc => h2.pnum c (List.mem_of_mem_take hc), h2.wk⟩
  · split
    · rename_i hto
      generalize gi (gr outs ↑b) (gi x.tried ↑b) = tt at hto ⊢
      obtain ⟨t, rfl⟩ : ∃ t : Nat, tt = t := ⟨tt.toNat, by omega⟩
      rw [Int.toNat_natCast]
      have htl : t < x.s.num.length := by rw [h.nl]; omega
      have hnum : ∀ c : Int, 0 ≤ c → 0 ≤ gi x.s.num c → 0 ≤ gi (x.s.goes b t).num c := by
        intro c hc hgc
        unfold Wk.goes
        split
        · show 0 ≤ gi (x.s.num.set t (x.s.par.length : Int)) c
          rw [gi_set htl _ _ hc]
          split <;> omega
        · exact hgc
      refine ⟨fun c hc => ?_, goes_ok2 h2.wk b t ⟨hpn, hnb⟩ htl⟩
      dsimp only at hc
      split at hc
      · rename_i hnew
        rcases List.mem_append.1 hc with hc | hc
        · exact hnum c (h.pin c hc).1 (h2.pnum c hc)
        · obtain rfl := List.mem_singleton.1 hc
          unfold Wk.goes
          rw [if_pos hnew]
          show 0 ≤ gi (x.s.num.set t (x.s.par.length : Int)) (t : Int)
          rw [gi_set htl _ _ (by omega), if_pos rfl]
          omega
      · exact hnum c (h.pin c hc).1 (h2.pnum c hc)
    · exact ⟨h2.pnum, h2.wk⟩
theorem WS.ok2.run {outs : List (List Int)} : ∀ (k : Nat) (x : WS), x.ok outs → x.ok2 → (x.run outs k).ok2
  | 0, x, _, h => h
  | k + 1, x, h, h2 => by
    by_cases hp : x.path = []
    · rw [WS.run_nil hp]; exact h2
    · rw [WS.run_step hp]
      exact WS.ok2.run k _ (h.step hp).1 (h2.step h hp)
theorem WS.ok2.first {n : Nat} (h : 0 < n) : (WS.first n).ok2 := by
  refine ⟨fun b hb => ?_, meet_ok2 (s := Wk.none n) ⟨fun v y hv _ => by simp [Wk.none] at hv, fun r hr => by simp [Wk.none] at hr⟩ 0 (.inl rfl)⟩
  obtain rfl := List.mem_singleton.1 hb
  show 0 ≤ gi ((List.replicate n (-1 : Int)).set 0 0) ((0 : Nat) : Int)
  rw [gi_set (by simp; exact h) _ _ (by omega), if_pos rfl]
  omega
/-- What the walk leaves. -/
theorem walkedL_ok {outs : List (List Int)} (h : outs ≠ []) : (walkedL outs).ok ∧ (walkedL outs).ok2 ∧ (walkedL outs).num.length = outs.length ∧ (walkedL outs).par.length ≤ outs.length ∧ (∀ r ∈ (walkedL outs).ins, r.length ≤ edges outs) ∧ 0 < (walkedL outs).par.length := by
  obtain ⟨h1, h2⟩ := WS.ok.first h
  have h3 := WS.ok.run (2 * edges outs + 2) _ h1 (by omega)
  have h4 := WS.ok2.run (2 * edges outs + 2) _ h1 (WS.ok2.first (List.length_pos_iff.2 h))
  refine ⟨h3.1.sok, h4.wk, h3.1.nl, by have := h3.1.par; exact Nat.le_trans (Nat.le_add_right _ _) this, fun r hr => by have := h3.1.rows r hr; omega, ?_⟩
  have key : ∀ (k : Nat) (x : WS), 0 < x.s.par.length → 0 < (x.run outs k).s.par.length := by
    intro k
    induction k with
    | zero => exact fun x hx => hx
    | succ k ih =>
      intro x hx
      by_cases hp : x.path = []
      · rw [WS.run_nil hp]; exact hx
      · rw [WS.run_step hp]
        refine ih _ ?_
        unfold WS.step
        dsimp only
        split
        · exact hx
        · split
          · unfold Wk.goes
            split
            · show 0 < (x.s.par ++ [_]).length
              simp
            · exact hx
          · exact hx
  exact key _ _ (by show 0 < ([] ++ [(0 : Int)]).length; simp)
end Go.Proofs.Ytipongpgmbhpkaa
