/-
  dom: what the walk tells: which places are come to.
-/
import Derived.Test.YtipongpgmbhpkaaDomBA
namespace Go.Proofs.Ytipongpgmbhpkaa
set_option linter.unusedVariables false

structure WF (outs : List (List Int)) (x : WS) : Prop where
  root : gi x.s.num ((0 : Nat) : Int) = 0
  inj : ∀ i j : Nat, i < outs.length → j < outs.length → gi x.s.num i = gi x.s.num j → gi x.s.num i ≠ -1 → i = j
  par : ∀ v : Nat, 0 < v → v < x.s.par.length → gi x.s.par v ∈ gr x.s.ins v
  done : ∀ b : Nat, b < outs.length → gi x.s.num b ≠ -1 → (b : Int) ∈ x.path ∨ gi x.tried b = ((gr outs b).length : Int)
  went : ∀ b : Nat, b < outs.length → ∀ k t : Nat, (k : Int) < gi x.tried b → (gr outs b)[k]? = some (t : Int) → t < outs.length → gi x.s.num t ≠ -1
  least : ∀ X : Nat → Prop, X 0 → (∀ b t : Nat, X b → b < outs.length → (t : Int) ∈ gr outs b → t < outs.length → X t) → ∀ b : Nat, b < outs.length → gi x.s.num b ≠ -1 → X b
theorem gr_append_new (l : List (List Int)) (v : Nat) : gr (l ++ [[]]) v = gr l v := by
  unfold gr
  rw [Int.toNat_natCast, List.getD_eq_getElem?_getD, List.getD_eq_getElem?_getD]
  rcases Nat.lt_trichotomy v l.length with h | h | h
  · rw [List.getElem?_append_left h]
  · subst h; simp
  · rw [List.getElem?_eq_none (by simp; omega), List.getElem?_eq_none (by omega)]
theorem gi_app (l : List Int) (y : Int) (v : Nat) : gi (l ++ [y]) v = if v = l.length then y else gi l v := by
  unfold gi
  rw [Int.toNat_natCast, List.getD_eq_getElem?_getD, List.getD_eq_getElem?_getD]
  rcases Nat.lt_trichotomy v l.length with h | h | h
  · rw [List.getElem?_append_left h, if_neg (by omega)]
  · subst h; simp
  · rw [List.getElem?_eq_none (by simp; omega), List.getElem?_eq_none (by omega), if_neg (by omega)]
theorem WF.step {outs : List (List Int)} {x : WS} (h : x.ok outs) (h2 : x.ok2) (hf : WF outs x) (hp : x.path ≠ []) : WF outs (x.step outs) := by
  have hl := last_mem hp
  obtain ⟨b0, b1⟩ := h.pin _ hl
  have hpn := h2.pnum _ hl
  obtain ⟨b, hb⟩ : ∃ b : Nat, x.path.getLastD 0 = b := ⟨(x.path.getLastD 0).toNat, by omega⟩
  rw [hb] at b0 b1 hpn hl
  have hbl : b < outs.length := by omega
  have hbn : b < x.s.num.length := by rw [h.nl]; exact hbl
  have hbt : b < x.tried.length := by rw [h.tl]; exact hbl
  have hlt : x.path.length - 1 < x.path.length := by have := List.length_pos_iff.2 hp; omega
  have hgr : ∃ row, outs[b]? = some row ∧ gr outs b = row := by
    refine ⟨outs[b], List.getElem?_eq_getElem hbl, ?_⟩
    unfold gr; rw [Int.toNat_natCast, List.getD_eq_getElem?_getD, List.getElem?_eq_getElem hbl]; rfl
  obtain ⟨row, hrow, hgr⟩ := hgr
  obtain ⟨t0, t1⟩ := h.tin b row hrow
  obtain ⟨k, hk⟩ : ∃ k : Nat, gi x.tried b = k := ⟨(gi x.tried b).toNat, by omega⟩
  have htr : ∀ c : Nat, gi (x.tried.set b ((k : Int) + 1)) c = if c = b then (k : Int) + 1 else gi x.tried c := by
    intro c
    rw [gi_set hbt _ _ (by omega)]
    by_cases e : c = b
    · rw [if_pos (by omega), if_pos e]
    · rw [if_neg (by omega), if_neg e]
  unfold WS.step
  dsimp only
  rw [hb, hgr, hk, Int.toNat_natCast]
  split
  · rename_i hend
    refine ⟨hf.root, hf.inj, hf.par, fun c hc hn => ?_, hf.went, hf.least⟩
    rcases hf.done c hc hn with hm | hm
    · by_cases e : c = b
      · right; subst e; dsimp only; rw [hk, hgr, hend]
      · left
        have hd : x.path = x.path.take (x.path.length - 1) ++ [(b : Int)] := by
          have h3 : x.path = x.path.dropLast ++ [x.path.getLast hp] := (List.dropLast_concat_getLast hp).symm
          have h4 : x.path.getLast hp = (b : Int) := by rw [← hb, List.getLastD_eq_getLast?, List.getLast?_eq_some_getLast hp]; rfl
          rw [h4, List.dropLast_eq_take] at h3
          exact h3
        rw [hd] at hm
        rcases List.mem_append.1 hm with hm | hm
        · exact hm
        · have := List.mem_singleton.1 hm; omega
    · exact .inr hm
  · rename_i hne
    have hkr : k < row.length := by rw [hk] at t1; omega
    obtain ⟨tt, htt⟩ : ∃ tt, row[k]? = some tt := ⟨_, List.getElem?_eq_getElem hkr⟩
    have hgk : gi row (k : Int) = tt := by unfold gi; rw [Int.toNat_natCast, List.getD_eq_getElem?_getD, htt]; rfl
    rw [hgk]
    have hdone : ∀ c : Nat, (c : Int) ∈ x.path ∨ gi x.tried c = ((gr outs c).length : Int) → (c : Int) ∈ x.path ∨ gi (x.tried.set b ((k : Int) + 1)) c = ((gr outs c).length : Int) := by
      intro c hc
      by_cases e : c = b
      · left; rw [e]; exact hl
      · rcases hc with hc | hc
        · exact .inl hc
        · right; rw [htr, if_neg e]; exact hc
    have hwent : ∀ num' : List Int, (∀ c : Nat, gi x.s.num c ≠ -1 → gi num' c ≠ -1) → (∀ t : Nat, tt = t → t < outs.length → gi num' t ≠ -1) → ∀ c : Nat, c < outs.length → ∀ j t : Nat, (j : Int) < gi (x.tried.set b ((k : Int) + 1)) c → (gr outs c)[j]? = some (t : Int) → t < outs.length → gi num' t ≠ -1 := by
      intro num' hmore hnew c hc j t hj hrt htl
      rw [htr] at hj
      by_cases e : c = b
      · rw [if_pos e] at hj
        subst e
        by_cases hjk : j = k
        · rw [hgr, hjk, htt] at hrt
          exact hnew t (Option.some.inj hrt) htl
        · exact hmore t (hf.went c hc j t (by rw [hk]; omega) hrt htl)
      · rw [if_neg e] at hj
        exact hmore t (hf.went c hc j t hj hrt htl)
    split
    · rename_i hto
      obtain ⟨t, rfl⟩ : ∃ t : Nat, tt = t := ⟨tt.toNat, by omega⟩
      rw [Int.toNat_natCast]
      have htl : t < outs.length := by omega
      have htn : t < x.s.num.length := by rw [h.nl]; exact htl
      have hgt : x.s.num.getD t 0 = gi x.s.num t := (gi_nat _ _).symm
      have hgb : x.s.num.getD b 0 = gi x.s.num b := (gi_nat _ _).symm
      have hedge : (t : Int) ∈ gr outs b := by rw [hgr]; exact List.mem_of_getElem? htt
      unfold Wk.goes
      by_cases hnew : gi x.s.num t = -1
      · have hisn : x.s.isNew t = true := by unfold Wk.isNew; rw [hgt]; exact decide_eq_true hnew
        have hbt' : b ≠ t := fun e => by subst e; omega
        rw [if_pos hisn, if_pos hisn]
        have hnum : ∀ c : Nat, gi (x.s.num.set t (x.s.par.length : Int)) c = if c = t then (x.s.par.length : Int) else gi x.s.num c := by
          intro c
          rw [gi_set htn _ _ (by omega)]
          by_cases e : c = t
          · rw [if_pos (by omega), if_pos e]
          · rw [if_neg (by omega), if_neg e]
        have hgb2 : (x.s.num.set t (x.s.par.length : Int)).getD b 0 = gi x.s.num b := by rw [← gi_nat, hnum, if_neg hbt']
        rw [hgb2, hgb]
        unfold Wk.meet Wk.way
        dsimp only
        have hlt' : ∀ c : Nat, c < outs.length → gi x.s.num c < (x.s.par.length : Int) := by
          intro c hc
          rcases h.sok.1 _ (gi_mem (v := c) (by rw [h.nl]; exact hc)) with e | e <;> omega
        have hil := h.sok.2
        refine ⟨?_, fun i j hi hj he hn => ?_, fun v v0 hv => ?_, fun c hc hn => ?_, ?_, fun X hX0 hX c hc hn => ?_⟩
        · dsimp only
          rw [hnum, if_neg (fun e => by rw [← e, hf.root] at hnew; omega)]
          exact hf.root
        · dsimp only at he hn
          rw [hnum, hnum] at he
          rw [hnum] at hn
          by_cases ei : i = t <;> by_cases ej : j = t
          · omega
          · rw [if_pos ei, if_neg ej] at he
            have := hlt' j hj; omega
          · rw [if_neg ei, if_pos ej] at he
            have := hlt' i hi; omega
          · rw [if_neg ei, if_neg ej] at he
            rw [if_neg ei] at hn
            exact hf.inj i j hi hj he hn
        · dsimp only at hv ⊢
          rw [List.length_append, List.length_singleton] at hv
          rw [gi_app, gr_set (by rw [List.length_append, List.length_singleton]; omega)]
          by_cases e : v = x.s.par.length
          · rw [if_pos e, if_pos e]
            exact List.mem_append_right _ (List.mem_singleton.2 rfl)
          · rw [if_neg e, if_neg e, gr_append_new]
            exact hf.par v v0 (by omega)
        · dsimp only at hn ⊢
          rw [hnum] at hn
          by_cases e : c = t
          · left; rw [e]; exact List.mem_append_right _ (List.mem_singleton.2 rfl)
          · rw [if_neg e] at hn
            rcases hdone c (hf.done c hc hn) with hm | hm
            · exact .inl (List.mem_append_left _ hm)
            · exact .inr hm
        · exact hwent _ (fun c hc => by rw [hnum]; split; omega; exact hc) (fun u hu hul => by rw [hnum, if_pos (by omega)]; omega)
        · dsimp only at hn
          rw [hnum] at hn
          have hXb : X b := hf.least X hX0 hX b hbl (by omega)
          by_cases e : c = t
          · subst e
            exact hX b c hXb hbl hedge hc
          · rw [if_neg e] at hn
            exact hf.least X hX0 hX c hc hn
      · have hisn : x.s.isNew t = false := by unfold Wk.isNew; rw [hgt]; exact decide_eq_false hnew
        rw [if_neg (by rw [hisn]; decide), if_neg (by rw [hisn]; decide), hgt, hgb]
        unfold Wk.way
        refine ⟨hf.root, hf.inj, fun v v0 hv => ?_, fun c hc hn => hdone c (hf.done c hc hn), ?_, hf.least⟩
        · dsimp only at hv ⊢
          have hil := h.sok.2
          have hnt := h.sok.1 _ (gi_mem (v := t) htn)
          obtain ⟨m, hm⟩ : ∃ m : Nat, gi x.s.num t = m := ⟨(gi x.s.num t).toNat, by omega⟩
          rw [hm, Int.toNat_natCast, gr_set (by omega)]
          have h3 := hf.par v v0 hv
          split
          · rename_i e
            subst e
            refine List.mem_append_left _ ?_
            have : x.s.ins.getD v [] = gr x.s.ins v := by unfold gr; rw [Int.toNat_natCast]
            rw [this]
            exact h3
          · exact h3
        · exact hwent x.s.num (fun c hc => hc) (fun u hu hul => by have htu : t = u := (by omega); rw [← htu]; exact hnew)
    · rename_i hto
      refine ⟨hf.root, hf.inj, hf.par, fun c hc hn => hdone c (hf.done c hc hn), ?_, hf.least⟩
      exact hwent x.s.num (fun c hc => hc) (fun t ht htl => absurd ⟨by omega, by omega⟩ hto)
theorem WF.run {outs : List (List Int)} : ∀ (k : Nat) (x : WS), x.ok outs → x.ok2 → WF outs x → WF outs (x.run outs k)
  | 0, x, _, _, h => h
  | k + 1, x, h, h2, hf => by
    by_cases hp : x.path = []
    · rw [WS.run_nil hp]; exact hf
    · rw [WS.run_step hp]
      exact WF.run k _ (h.step hp).1 (h2.step h hp) (hf.step h h2 hp)
theorem WF.first {outs : List (List Int)} (h : outs ≠ []) : WF outs (WS.first outs.length) := by
  have hl : 0 < outs.length := List.length_pos_iff.2 h
  have hnum : ∀ c : Nat, c < outs.length → gi (WS.first outs.length).s.num c = if c = 0 then 0 else -1 := by
    intro c hc
    show gi ((List.replicate outs.length (-1 : Int)).set 0 _) c = _
    rw [gi_set (by simp; exact hl) _ _ (by omega)]
    by_cases e : c = 0
    · rw [if_pos (by omega), if_pos e]; rfl
    · rw [if_neg (by omega), if_neg e]
      unfold gi
      rw [Int.toNat_natCast, List.getD_eq_getElem?_getD, List.getElem?_replicate, if_pos hc]; rfl
  have htr : ∀ c : Nat, gi (WS.first outs.length).tried c = 0 := by
    intro c
    show gi (List.replicate outs.length 0) c = 0
    unfold gi
    rw [Int.toNat_natCast, List.getD_eq_getElem?_getD, List.getElem?_replicate]
    split <;> rfl
  refine ⟨by rw [hnum 0 hl]; rfl, fun i j hi hj he hn => ?_, fun v v0 hv => ?_, fun b hb hn => ?_, fun b hb k t hk => ?_, fun X hX0 hX b hb hn => ?_⟩
  · rw [hnum i hi] at he hn
    rw [hnum j hj] at he
    by_cases ei : i = 0 <;> by_cases ej : j = 0
    · omega
    · rw [if_pos ei, if_neg ej] at he; omega
    · rw [if_neg ei] at hn; exact absurd rfl hn
    · rw [if_neg ei] at hn; exact absurd rfl hn
  · have : (WS.first outs.length).s.par.length = 1 := rfl
    omega
  · left
    rw [hnum b hb] at hn
    by_cases e : b = 0
    · subst e; exact List.mem_singleton.2 rfl
    · rw [if_neg e] at hn; exact absurd rfl hn
  · rw [htr] at hk; omega
  · rw [hnum b hb] at hn
    by_cases e : b = 0
    · subst e; exact hX0
    · rw [if_neg e] at hn; exact absurd rfl hn
/-- The walk's end: which places have numbers. -/
structure WEnd (outs : List (List Int)) (s : Wk) : Prop where
  fit : s.fit
  nl : s.num.length = outs.length
  pos : 0 < s.par.length
  num : ∀ b : Nat, b < outs.length → gi s.num b = -1 ∨ (0 ≤ gi s.num b ∧ gi s.num b < (s.par.length : Int))
  root : gi s.num ((0 : Nat) : Int) = 0
  inj : ∀ i j : Nat, i < outs.length → j < outs.length → gi s.num i = gi s.num j → gi s.num i ≠ -1 → i = j
  went : ∀ b t : Nat, b < outs.length → gi s.num b ≠ -1 → (t : Int) ∈ gr outs b → t < outs.length → gi s.num t ≠ -1
  least : ∀ X : Nat → Prop, X 0 → (∀ b t : Nat, X b → b < outs.length → (t : Int) ∈ gr outs b → t < outs.length → X t) → ∀ b : Nat, b < outs.length → gi s.num b ≠ -1 → X b
theorem walked_end {outs : List (List Int)} (h : outs ≠ []) : WEnd outs (walkedL outs) := by
  obtain ⟨h1, h2⟩ := WS.ok.first h
  have hl : 0 < outs.length := List.length_pos_iff.2 h
  have h3 := WS.ok.run (2 * edges outs + 2) _ h1 (by omega)
  have h4 := WF.run (2 * edges outs + 2) _ h1 (WS.ok2.first hl) (WF.first h)
  obtain ⟨k1, k2, k3, k4, k5, k6⟩ := walkedL_ok h
  have hrun : walkedL outs = ((WS.first outs.length).run outs (2 * edges outs + 2)).s := rfl
  generalize (WS.first outs.length).run outs (2 * edges outs + 2) = z at *
  rw [hrun] at k1 k2 k3 k4 k5 k6 ⊢
  refine ⟨⟨fun v v0 hv => ?_, fun v x hx => ?_⟩, k3, k6, fun b hb => k1.1 _ (gi_mem (by rw [k3]; exact hb)), h4.root, h4.inj, fun b t hb hn ht htl => ?_, h4.least⟩
  · have := k2.par v _ (gi_get hv) v0
    exact ⟨this.1, this.2, h4.par v v0 hv⟩
  · rcases Nat.lt_or_ge v z.s.ins.length with hlt | hge
    · refine k2.ins (gr z.s.ins v) ?_ x hx
      unfold gr
      rw [Int.toNat_natCast, List.getD_eq_getElem?_getD, List.getElem?_eq_getElem hlt]
      exact List.getElem_mem _
    · unfold gr at hx
      rw [Int.toNat_natCast, List.getD_eq_getElem?_getD, List.getElem?_eq_none hge] at hx
      cases hx
  · rcases h4.done b hb hn with hm | hm
    · rw [h3.2] at hm; cases hm
    · obtain ⟨k, hk⟩ := List.mem_iff_getElem?.1 ht
      exact h4.went b hb k t (by rw [hm]; have := (List.getElem?_eq_some_iff.1 hk).1; omega) hk htl
theorem low_of_walk {outs : List (List Int)} (h : outs ≠ []) : Low (aboveL (walkedL outs)) (walkedL outs).par.length := low_above (walked_end h).fit (walked_end h).pos
end Go.Proofs.Ytipongpgmbhpkaa
