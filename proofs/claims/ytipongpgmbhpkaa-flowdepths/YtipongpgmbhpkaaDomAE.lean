/-
  flow: the order is the law's visit, turned round.
-/
import Derived.Test.YtipongpgmbhpkaaDomV
namespace Go.Proofs.Ytipongpgmbhpkaa
set_option linter.unusedVariables false

def visitStep (n : Nat) (rec_ : Int → List Bool × List Int → List Bool × List Int) (y : List Bool × List Int) (tt : Int) : List Bool × List Int :=
  if 0 ≤ tt ∧ tt < (n : Int) ∧ y.1.getD tt.toNat false = false then rec_ tt y else y
def visitL (ways : List (List Int)) : Nat → Int → List Bool × List Int → List Bool × List Int
  | 0, _, x => x
  | k + 1, b, x =>
    let y := (gr ways b).foldl (visitStep ways.length (visitL ways k)) (x.1.set b.toNat true, x.2)
    (y.1, y.2 ++ [b])
def unseen (s : List Bool) : Nat := s.count false
theorem unseen_set {s : List Bool} {b : Nat} (h : s[b]? = some false) : unseen (s.set b true) + 1 = unseen s := by
  unfold unseen
  induction s generalizing b with
  | nil => cases h
  | cons a s ih =>
    cases b with
    | zero => simp at h; subst h; simp
    | succ b =>
      simp only [List.getElem?_cons_succ] at h
      have := ih h
      simp only [List.set_cons_succ, List.count_cons]
      omega
def inRow (n : Nat) (r : List Int) : List Int := r.filter (fun tt => decide (0 ≤ tt) && decide (tt < (n : Int)))
def outsOf (ways : List (List Int)) : List (List Int) := ways.map (inRow ways.length)
theorem visitL_outs (ways : List (List Int)) : ∀ (k : Nat) (b : Int) (x : List Bool × List Int), visitL (outsOf ways) k b x = visitL ways k b x
  | 0, _, _ => rfl
  | k + 1, b, x => by
    have hl : (outsOf ways).length = ways.length := by unfold outsOf; rw [List.length_map]
    have hg : gr (outsOf ways) b = inRow ways.length (gr ways b) := by
      unfold gr outsOf
      rw [List.getD_eq_getElem?_getD, List.getD_eq_getElem?_getD, List.getElem?_map]
      cases ways[b.toNat]? <;> rfl
    have hs : visitStep (outsOf ways).length (visitL (outsOf ways) k) = visitStep ways.length (visitL ways k) := by
      rw [hl]
      congr 1
      funext c y
      exact visitL_outs ways k c y
    unfold visitL
    rw [hs, hg]
    unfold inRow
    rw [List.foldl_filter]
    have : (fun (x : List Bool × List Int) (y : Int) => if (decide (0 ≤ y) && decide (y < (ways.length : Int))) = true then visitStep ways.length (visitL ways k) x y else x) = visitStep ways.length (visitL ways k) := by
      funext y tt
      unfold visitStep
      by_cases h1 : 0 ≤ tt <;> by_cases h2 : tt < (ways.length : Int) <;> simp [h1, h2]
    rw [this]
theorem OS.run_add (outs : List (List Int)) : ∀ (a b : Nat) (x : OS), x.run outs (a + b) = (x.run outs a).run outs b
  | 0, b, x => by rw [Nat.zero_add]; rfl
  | a + 1, b, x => by
    by_cases hp : x.path = []
    · rw [OS.run_nil hp, OS.run_nil hp, OS.run_nil hp]
    · rw [show a + 1 + b = (a + b) + 1 from by omega, OS.run_step hp, OS.run_step hp]
      exact OS.run_add outs a b _
theorem OS.run_done {outs : List (List Int)} (hin : Inside outs) : ∀ (k : Nat) (x : OS), x.ok outs → x.left outs ≤ k → (x.run outs k).path = []
  | 0, x, h, hk => by
    have : x.path.length = 0 := by unfold OS.left at hk; omega
    exact List.length_eq_zero_iff.1 this
  | k + 1, x, h, hk => by
    by_cases hp : x.path = []
    · rw [OS.run_nil hp]; exact hp
    · rw [OS.run_step hp]
      obtain ⟨h1, h2⟩ := h.step hin hp
      exact OS.run_done hin k _ h1 (by omega)
/-- What a visit leaves. -/
structure Went (outs : List (List Int)) (s : List Bool) (g : List Int) (s' : List Bool) (g' : List Int) : Prop where
  sl : s'.length = s.length
  gl : g'.length = g.length
  more : ∀ v, s.getD v false = true → s'.getD v false = true
  few : unseen s' ≤ unseen s
  zero : ∀ v : Nat, s'.getD v false = false → gi g' v = 0
theorem visit_runs {outs : List (List Int)} (hin : Inside outs) : ∀ (k : Nat) (b : Nat) (s : List Bool) (l : List Int) (g : List Int) (p : List Int), b < outs.length → s.length = outs.length → g.length = outs.length → s[b]? = some false → unseen s ≤ k → (∀ v : Nat, s.getD v false = false → gi g v = 0) →
    ∃ m g', (OS.mk l (s.set b true) g (p ++ [(b : Int)])).run outs m = ⟨(visitL outs k b (s, l)).2, (visitL outs k b (s, l)).1, g', p⟩ ∧ Went outs s g (visitL outs k b (s, l)).1 g' ∧ (∀ v : Nat, s.getD v false = true → gi g' v = gi g v)
  | 0, b, s, l, g, p, hb, hs, hg, hbs, hk, hz => by
    have := unseen_set hbs; omega
  | k + 1, b, s, l, g, p, hb, hs, hg, hbs, hk, hz => by
    obtain ⟨row, hrow⟩ : ∃ r, outs[b]? = some r := ⟨_, List.getElem?_eq_getElem hb⟩
    have hgr : gr outs (b : Int) = row := by unfold gr; rw [Int.toNat_natCast, List.getD_eq_getElem?_getD, hrow]; rfl
    have hgetD : ∀ (s : List Bool) (v : Nat), s.getD v false = false → v < s.length → s[v]? = some false := by
      intro s v h1 h2
      rw [List.getElem?_eq_getElem h2]
      rw [List.getD_eq_getElem?_getD, List.getElem?_eq_getElem h2] at h1
      exact congrArg some h1
    -- the kids
    have kids : ∀ (d j : Nat) (s1 : List Bool) (l1 g1 : List Int), d = row.length - j → j ≤ row.length → s1.length = outs.length → g1.length = outs.length → s1.getD b false = true → unseen s1 ≤ k → gi g1 b = (j : Int) → (∀ v : Nat, s1.getD v false = false → gi g1 v = 0) →
        ∃ m g', (OS.mk l1 s1 g1 (p ++ [(b : Int)])).run outs m = ⟨((row.drop j).foldl (visitStep outs.length (visitL outs k)) (s1, l1)).2, ((row.drop j).foldl (visitStep outs.length (visitL outs k)) (s1, l1)).1, g', p ++ [(b : Int)]⟩ ∧ gi g' b = (row.length : Int) ∧ Went outs s1 g1 ((row.drop j).foldl (visitStep outs.length (visitL outs k)) (s1, l1)).1 g' ∧ (∀ v : Nat, v ≠ b → s1.getD v false = true → gi g' v = gi g1 v) := by
      intro d
      induction d with
      | zero =>
        intro j s1 l1 g1 hd hj hs1 hg1 hsb hun hgb hz1
        obtain rfl : j = row.length := by omega
        rw [List.drop_length]
        exact ⟨0, g1, rfl, hgb, ⟨rfl, rfl, fun _ h => h, Nat.le_refl _, hz1⟩, fun _ _ _ => rfl⟩
      | succ d ih =>
        intro j s1 l1 g1 hd hj hs1 hg1 hsb hun hgb hz1
        have hjl : j < row.length := by omega
        have htt : row[j]? = some row[j] := List.getElem?_eq_getElem hjl
        have hti := hin row (List.mem_of_getElem? hrow) row[j] (List.getElem_mem hjl)
        obtain ⟨t, ht⟩ : ∃ t : Nat, row[j] = (t : Int) := ⟨row[j].toNat, by omega⟩
        rw [ht] at htt hti
        have htn : t < outs.length := by omega
        have hdrop : row.drop j = (t : Int) :: row.drop (j + 1) := by rw [List.drop_eq_getElem_cons hjl, ht]
        have hpne : (p ++ [(b : Int)]) ≠ [] := by simp
        have hlast : (p ++ [(b : Int)]).getLastD 0 = (b : Int) := by simp
        have hstep := OS.step_way (x := OS.mk l1 s1 g1 (p ++ [(b : Int)])) hlast hrow hgb htt
        dsimp only at hstep
        have hgset : ∀ v : Nat, gi (g1.set b ((j : Int) + 1)) v = if v = b then (j : Int) + 1 else gi g1 v := by
          intro v
          unfold gi
          rw [Int.toNat_natCast, List.getD_eq_getElem?_getD, List.getD_eq_getElem?_getD]
          by_cases hv : v = b
          · subst hv; rw [if_pos rfl, List.getElem?_set_self (by omega)]; rfl
          · rw [if_neg hv, List.getElem?_set_ne (by omega)]
        rw [hdrop, List.foldl_cons]
        cases hst : s1.getD t false with
        | true =>
          rw [hst, if_pos rfl] at hstep
          have hvs : visitStep outs.length (visitL outs k) (s1, l1) (t : Int) = (s1, l1) := by
            unfold visitStep
            rw [if_neg (by rw [Int.toNat_natCast]; simp only [hst]; simp)]
          rw [hvs]
          obtain ⟨m, g', hr, hb', hw, hke⟩ := ih (j + 1) s1 l1 (g1.set b ((j : Int) + 1)) (by omega) (by omega) hs1 (by rw [List.length_set]; exact hg1) hsb hun (by rw [hgset, if_pos rfl]; simp) (fun v hv => by
            rw [hgset, if_neg (fun e => by rw [e, hsb] at hv; cases hv)]; exact hz1 v hv)
          refine ⟨m + 1, g', ?_, hb', ⟨hw.sl, by rw [hw.gl, List.length_set], hw.more, hw.few, hw.zero⟩, fun v hv h1 => ?_⟩
          · rw [OS.run_step hpne, hstep]; exact hr
          · rw [hke v hv h1, hgset, if_neg hv]
        | false =>
          rw [hst, if_neg (by decide)] at hstep
          have hts : s1[t]? = some false := hgetD s1 t hst (by omega)
          have htb : t ≠ b := fun e => by rw [e, hsb] at hst; cases hst
          have hvs : visitStep outs.length (visitL outs k) (s1, l1) (t : Int) = visitL outs k (t : Int) (s1, l1) := by
            unfold visitStep
            rw [if_pos ⟨by omega, by omega, by rw [Int.toNat_natCast]; exact hst⟩]
          rw [hvs]
          obtain ⟨m1, g2, hr1, hw1, hke1⟩ := visit_runs hin k t s1 l1 (g1.set b ((j : Int) + 1)) (p ++ [(b : Int)]) htn hs1 (by rw [List.length_set]; exact hg1) hts hun (fun v hv => by
            rw [hgset, if_neg (fun e => by rw [e, hsb] at hv; cases hv)]; exact hz1 v hv)
          generalize visitL outs k (t : Int) (s1, l1) = y at *
          obtain ⟨s2, l2⟩ := y
          have hsb2 : s2.getD b false = true := hw1.more b hsb
          obtain ⟨m2, g', hr2, hb', hw2, hke2⟩ := ih (j + 1) s2 l2 g2 (by omega) (by omega) (hw1.sl.trans hs1) (by rw [hw1.gl, List.length_set]; exact hg1) hsb2 (Nat.le_trans hw1.few hun) (by rw [hke1 b hsb, hgset, if_pos rfl]; simp) hw1.zero
          refine ⟨1 + m1 + m2, g', ?_, hb', ⟨hw2.sl.trans hw1.sl, by rw [hw2.gl, hw1.gl, List.length_set], fun v h => hw2.more v (hw1.more v h), Nat.le_trans hw2.few hw1.few, hw2.zero⟩, fun v hv h1 => ?_⟩
          · rw [OS.run_add, show 1 + m1 = m1 + 1 from by omega, OS.run_step hpne, hstep, hr1]
            exact hr2
          · rw [hke2 v hv (hw1.more v h1), hke1 v h1, hgset, if_neg hv]
    have hbl : b < s.length := by omega
    have hsetb : (s.set b true).getD b false = true := by
      rw [List.getD_eq_getElem?_getD, List.getElem?_set_self hbl]; rfl
    have hsetn : ∀ v, v ≠ b → (s.set b true).getD v false = s.getD v false := by
      intro v hv
      rw [List.getD_eq_getElem?_getD, List.getD_eq_getElem?_getD, List.getElem?_set_ne (by omega)]
    have hub := unseen_set hbs
    have hb0 : s.getD b false = false := by rw [List.getD_eq_getElem?_getD, hbs]; rfl
    obtain ⟨m, g', hr, hb', hw, hke⟩ := kids row.length 0 (s.set b true) l g rfl (Nat.zero_le _) (by rw [List.length_set]; exact hs) hg hsetb (by omega) (by rw [hz b hb0]; rfl) (fun v hv => by
      by_cases e : v = b
      · rw [e, hsetb] at hv; cases hv
      · rw [hsetn v e] at hv; exact hz v hv)
    have hvis : visitL outs (k + 1) b (s, l) = (((row.drop 0).foldl (visitStep outs.length (visitL outs k)) (s.set b true, l)).1, ((row.drop 0).foldl (visitStep outs.length (visitL outs k)) (s.set b true, l)).2 ++ [(b : Int)]) := by
      rw [List.drop_zero, visitL, hgr, Int.toNat_natCast]
    rw [hvis]
    generalize (row.drop 0).foldl (visitStep outs.length (visitL outs k)) (s.set b true, l) = y at *
    obtain ⟨s2, l2⟩ := y
    refine ⟨m + 1, g', ?_, ⟨by have := hw.sl; rw [List.length_set] at this; exact this, hw.gl, fun v hv => hw.more v ?_, by have := hw.few; dsimp only at this ⊢; omega, hw.zero⟩, fun v hv => ?_⟩
    · rw [OS.run_add, hr, OS.run_step (by simp)]
      rw [OS.step_end (f := b) (row := row) (by simp) hrow hb']
      have : (p ++ [(b : Int)]).take ((p ++ [(b : Int)]).length - 1) = p := by simp
      dsimp only
      rw [this]
      rfl
    · by_cases e : v = b
      · rw [e]; exact hsetb
      · rw [hsetn v e]; exact hv
    · have e : v ≠ b := fun e => by rw [e, hb0] at hv; cases hv
      exact hke v e (by rw [hsetn v e]; exact hv)
theorem order_visit {ways : List (List Int)} (hne : ways ≠ []) : orderL (outsOf ways) = (visitL ways ways.length 0 (List.replicate ways.length false, [])).2.reverse := by
  have hl : (outsOf ways).length = ways.length := by unfold outsOf; rw [List.length_map]
  have hwl : 0 < ways.length := List.length_pos_iff.2 hne
  have hne' : outsOf ways ≠ [] := List.length_pos_iff.1 (by omega)
  have hin : Inside (outsOf ways) := by
    intro row hr x hx
    unfold outsOf at hr
    obtain ⟨r, _, rfl⟩ := List.mem_map.1 hr
    unfold inRow at hx
    have := (List.mem_filter.1 hx).2
    simp only [Bool.and_eq_true, decide_eq_true_eq] at this
    rw [hl]
    exact this
  rw [orderL_eq hne']
  obtain ⟨hok, hleft⟩ := OS.ok.first hne'
  have hdone := OS.run_done hin (2 * edges (outsOf ways) + 2 * (outsOf ways).length) _ hok (by omega)
  obtain ⟨m, g', hr, _, _⟩ := visit_runs hin (outsOf ways).length 0 (List.replicate (outsOf ways).length false) [] (List.replicate (outsOf ways).length 0) [] (by omega) (by simp) (by simp) (by rw [List.getElem?_replicate_of_lt (by omega)]) (by unfold unseen; simp) (fun v _ => by
    unfold gi
    rw [List.getD_eq_getElem?_getD, List.getElem?_replicate]
    split <;> rfl)
  have hr' : (OS.first (outsOf ways).length).run (outsOf ways) m = _ := hr
  have e1 : (OS.first (outsOf ways).length).run (outsOf ways) (2 * edges (outsOf ways) + 2 * (outsOf ways).length) = (OS.first (outsOf ways).length).run (outsOf ways) m := by
    have h1 := OS.run_add (outsOf ways) (2 * edges (outsOf ways) + 2 * (outsOf ways).length) m (OS.first (outsOf ways).length)
    have h2 := OS.run_add (outsOf ways) m (2 * edges (outsOf ways) + 2 * (outsOf ways).length) (OS.first (outsOf ways).length)
    rw [OS.run_nil hdone] at h1
    rw [hr', OS.run_nil (x := ⟨_, _, g', []⟩) rfl, ← hr'] at h2
    rw [← h1, ← h2, Nat.add_comm]
  rw [e1, hr']
  dsimp only
  rw [visitL_outs, hl]
  rfl
end Go.Proofs.Ytipongpgmbhpkaa
