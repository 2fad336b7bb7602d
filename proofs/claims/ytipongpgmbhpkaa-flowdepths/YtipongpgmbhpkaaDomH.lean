/-
  dom: the walk, as a function of lists: what holds all along, and that it ends.
-/
import Derived.Test.YtipongpgmbhpkaaDomG
namespace Go.Proofs.Ytipongpgmbhpkaa
set_option linter.unusedVariables false

def rest : List (List Int) → List Int → Nat
  | r :: rs, t :: ts => (r.length - t.toNat) + rest rs ts
  | _, _ => 0
theorem rest_set : ∀ (outs : List (List Int)) (tried : List Int) (b : Nat) (row : List Int) (k : Int), outs[b]? = some row → tried[b]? = some k → 0 ≤ k → k < (row.length : Int) → rest outs (tried.set b (k + 1)) + 1 = rest outs tried
  | [], _, b, _, _, h, _, _, _ => by simp at h
  | _ :: _, [], b, _, _, _, h, _, _ => by simp at h
  | r :: rs, t :: ts, 0, row, k, h1, h2, h3, h4 => by
    simp only [List.getElem?_cons_zero, Option.some.injEq] at h1 h2
    subst h1; subst h2
    simp only [List.set_cons_zero, rest]
    omega
  | r :: rs, t :: ts, b + 1, row, k, h1, h2, h3, h4 => by
    rw [List.getElem?_cons_succ] at h1 h2
    have := rest_set rs ts b row k h1 h2 h3 h4
    simp only [List.set_cons_succ, rest]
    omega
def neg : List Int → Nat
  | [] => 0
  | x :: xs => (if x = -1 then 1 else 0) + neg xs
theorem neg_set : ∀ (l : List Int) (t : Nat) (y : Int), l[t]? = some (-1) → 0 ≤ y → neg (l.set t y) + 1 = neg l
  | [], _, _, h, _ => by simp at h
  | x :: xs, 0, y, h, hy => by
    simp only [List.getElem?_cons_zero, Option.some.injEq] at h
    subst h
    simp only [List.set_cons_zero, neg]
    rw [if_neg (by omega)]
    simp only [if_true]
    omega
  | x :: xs, t + 1, y, h, hy => by
    have := neg_set xs t y (by simpa using h) hy
    simp only [List.set_cons_succ, neg]
    omega
theorem way_rows {s : Wk} {M : Nat} (h : ∀ r ∈ s.ins, r.length ≤ M) (v : Nat) (x : Int) : ∀ r ∈ (s.way v x).ins, r.length ≤ M + 1 := by
  intro r hr
  unfold Wk.way at hr
  dsimp only at hr
  rcases List.mem_or_eq_of_mem_set hr with hr | rfl
  · exact Nat.le_succ_of_le (h r hr)
  · rw [List.length_append, List.length_singleton]
    rcases Nat.lt_or_ge v s.ins.length with hv | hv
    · rw [List.getD_eq_getElem?_getD, List.getElem?_eq_getElem hv]
      exact Nat.succ_le_succ (h _ (List.getElem_mem hv))
    · rw [List.getD_eq_getElem?_getD, List.getElem?_eq_none hv]
      exact Nat.succ_le_succ (Nat.zero_le _)
theorem goes_rows {s : Wk} {M : Nat} (h : ∀ r ∈ s.ins, r.length ≤ M) (f t : Nat) : ∀ r ∈ (s.goes f t).ins, r.length ≤ M + 1 := by
  unfold Wk.goes
  split
  · refine way_rows (fun r hr => ?_) _ _
    rcases List.mem_append.1 hr with hr | hr
    · exact h r hr
    · obtain rfl := List.mem_singleton.1 hr; exact Nat.zero_le _
  · exact way_rows h _ _
theorem goes_len (s : Wk) (f t : Nat) : (s.goes f t).num.length = s.num.length := by
  unfold Wk.goes
  split
  · exact List.length_set ..
  · rfl
theorem goes_par {s : Wk} {n : Nat} (h : s.par.length + neg s.num ≤ n) (f t : Nat) (ht : t < s.num.length) : (s.goes f t).par.length + neg (s.goes f t).num ≤ n := by
  unfold Wk.goes
  split
  · rename_i hn
    have e : s.num.getD t 0 = -1 := of_decide_eq_true hn
    have e2 : s.num[t]? = some (-1) := by
      rw [List.getElem?_eq_getElem ht]
      rw [List.getD_eq_getElem?_getD, List.getElem?_eq_getElem ht] at e
      exact congrArg some e
    have := neg_set s.num t (s.par.length : Int) e2 (by omega)
    show (s.par ++ [s.num.getD f 0]).length + neg (s.num.set t (s.par.length : Int)) ≤ n
    rw [List.length_append, List.length_singleton]
    omega
  · exact h
/-- What holds all along the walk. -/
structure WS.ok (outs : List (List Int)) (x : WS) : Prop where
  sok : x.s.ok
  nl : x.s.num.length = outs.length
  tl : x.tried.length = outs.length
  pin : ∀ b ∈ x.path, 0 ≤ b ∧ b < (outs.length : Int)
  tin : ∀ (i : Nat) (row : List Int), outs[i]? = some row → 0 ≤ gi x.tried i ∧ gi x.tried i ≤ (row.length : Int)
  par : x.s.par.length + neg x.s.num ≤ outs.length
  rle : rest outs x.tried ≤ edges outs
  rows : ∀ r ∈ x.s.ins, r.length + rest outs x.tried ≤ edges outs
def WS.left (outs : List (List Int)) (x : WS) : Nat := 2 * rest outs x.tried + x.path.length
theorem last_mem {l : List Int} (h : l ≠ []) : l.getLastD 0 ∈ l := by
  cases l with
  | nil => exact absurd rfl h
  | cons a l' =>
    rw [List.getLastD_cons]
    exact List.getLastD_mem_cons ..
theorem WS.ok.step {outs : List (List Int)} {x : WS} (h : x.ok outs) (hp : x.path ≠ []) : (x.step outs).ok outs ∧ (x.step outs).left outs < x.left outs := by
  obtain ⟨b0, b1⟩ := h.pin _ (last_mem hp)
  obtain ⟨b, hb⟩ : ∃ b : Nat, x.path.getLastD 0 = b := ⟨(x.path.getLastD 0).toNat, by omega⟩
  rw [hb] at b0 b1
  have hbl : b < outs.length := by omega
  obtain ⟨row, hrow⟩ : ∃ r, outs[b]? = some r := ⟨_, List.getElem?_eq_getElem hbl⟩
  have hgr : gr outs (b : Int) = row := by unfold gr; rw [Int.toNat_natCast, List.getD_eq_getElem?_getD, hrow]; rfl
  have hpl : 0 < x.path.length := List.length_pos_iff.2 hp
  have ht := gi_get (l := x.tried) (v := b) (by rw [h.tl]; exact hbl)
  obtain ⟨t0, t1⟩ := h.tin b row hrow
  unfold WS.step
  dsimp only
  rw [hb, hgr]
  split
  · refine ⟨⟨h.sok, h.nl, h.tl, fun c hc => h.pin c (List.mem_of_mem_take hc), h.tin, h.par, h.rle, h.rows⟩, ?_⟩
    unfold WS.left
    dsimp only
    rw [List.length_take]
    omega
  · rename_i hk
    rw [Int.toNat_natCast]
    have hlt : gi x.tried b < (row.length : Int) := by omega
    have hr := rest_set outs x.tried b row _ hrow ht t0 hlt
    have htl : (x.tried.set b (gi x.tried b + 1)).length = outs.length := by rw [List.length_set]; exact h.tl
    have htin : ∀ (i : Nat) (r : List Int), outs[i]? = some r → 0 ≤ gi (x.tried.set b (gi x.tried b + 1)) i ∧ gi (x.tried.set b (gi x.tried b + 1)) i ≤ (r.length : Int) := by
      intro i r hi
      rw [gi_set (by rw [h.tl]; exact hbl) _ _ (by omega)]
      split
      · rename_i e
        obtain rfl : i = b := by omega
        rw [hrow] at hi
        cases hi
        omega
      · exact h.tin i r hi
    split
    · rename_i hto
      obtain ⟨o0, o1⟩ := hto
      have hton : (gi row (gi x.tried b)).toNat < x.s.num.length := by rw [h.nl]; omega
      have hrows : ∀ r ∈ (x.s.goes b (gi row (gi x.tried b)).toNat).ins, r.length + rest outs (x.tried.set b (gi x.tried b + 1)) ≤ edges outs := by
        intro r hr'
        have := h.rle
        have := goes_rows (s := x.s) (M := edges outs - rest outs x.tried) (fun r hr => by have := h.rows r hr; omega) b (gi row (gi x.tried b)).toNat r hr'
        omega
      refine ⟨⟨h.sok.goes _ _, by rw [goes_len]; exact h.nl, htl, ?_, htin, goes_par h.par _ _ hton, by have := h.rle; dsimp only; omega, hrows⟩, ?_⟩
      · intro c hc
        dsimp only at hc
        split at hc
        · rcases List.mem_append.1 hc with hc | hc
          · exact h.pin c hc
          · obtain rfl := List.mem_singleton.1 hc; exact ⟨o0, o1⟩
        · exact h.pin c hc
      · unfold WS.left
        dsimp only
        split
        · rw [List.length_append, List.length_singleton]; omega
        · omega
    · refine ⟨⟨h.sok, h.nl, htl, h.pin, htin, h.par, by have := h.rle; dsimp only; omega, fun r hr' => ?_⟩, ?_⟩
      · have := h.rows r hr'
        dsimp only
        omega
      · unfold WS.left
        dsimp only
        omega
/-- One round more: for a loop's step. -/
theorem WS.run_step {outs : List (List Int)} {x : WS} (hp : x.path ≠ []) (k : Nat) : x.run outs (k + 1) = (x.step outs).run outs k := by
  rw [WS.run]
  split
  · rename_i h; exact absurd h hp
  · rfl
theorem WS.run_nil {outs : List (List Int)} {x : WS} (hp : x.path = []) (k : Nat) : x.run outs k = x := by
  cases k with
  | zero => rfl
  | succ k => rw [WS.run, hp]
theorem WS.ok.run {outs : List (List Int)} : ∀ (k : Nat) (x : WS), x.ok outs → x.left outs ≤ k → (x.run outs k).ok outs ∧ (x.run outs k).path = []
  | 0, x, h, hk => by
    have hp : x.path = [] := by
      unfold WS.left at hk
      exact List.length_eq_zero_iff.1 (by omega)
    exact ⟨h, hp⟩
  | k + 1, x, h, hk => by
    by_cases hp : x.path = []
    · rw [WS.run_nil hp]; exact ⟨h, hp⟩
    · rw [WS.run_step hp]
      obtain ⟨h1, h2⟩ := h.step hp
      exact WS.ok.run k _ h1 (by omega)
theorem rest_none : ∀ (outs : List (List Int)), rest outs (List.replicate outs.length 0) = edges outs
  | [] => rfl
  | r :: rs => by
    have := rest_none rs
    simp only [List.length_cons, List.replicate_succ, rest, edges, List.map_cons, List.sum_cons] at this ⊢
    rw [this]
    simp
theorem neg_none : ∀ (n : Nat), neg (List.replicate n (-1)) = n
  | 0 => rfl
  | n + 1 => by
    have := neg_none n
    simp only [List.replicate_succ, neg, if_true]
    omega
theorem WS.ok.first {outs : List (List Int)} (h : outs ≠ []) : (WS.first outs.length).ok outs ∧ (WS.first outs.length).left outs = 2 * edges outs + 1 := by
  have hl : 0 < outs.length := List.length_pos_iff.2 h
  have hok : (Wk.none outs.length).ok := ⟨fun x hx => .inl (List.eq_of_mem_replicate hx), rfl⟩
  have hneg := neg_set (List.replicate outs.length (-1)) 0 0 (by rw [List.getElem?_replicate, if_pos hl]) (by omega)
  rw [neg_none] at hneg
  refine ⟨⟨hok.meet 0 0, ?_, List.length_replicate, ?_, ?_, ?_, ?_, ?_⟩, ?_⟩
  · show ((List.replicate outs.length (-1 : Int)).set 0 _).length = _
    rw [List.length_set, List.length_replicate]
  · intro b hb
    obtain rfl := List.mem_singleton.1 hb
    omega
  · intro i row hi
    have hil := (List.getElem?_eq_some_iff.1 hi).1
    have : gi (List.replicate outs.length 0) (i : Int) = 0 := by
      unfold gi
      rw [Int.toNat_natCast, List.getD_eq_getElem?_getD, List.getElem?_replicate, if_pos hil]; rfl
    show 0 ≤ gi (List.replicate outs.length 0) (i : Int) ∧ gi (List.replicate outs.length 0) (i : Int) ≤ _
    rw [this]; omega
  · show 1 + neg ((List.replicate outs.length (-1 : Int)).set 0 0) ≤ outs.length
    omega
  · show rest outs (List.replicate outs.length 0) ≤ _
    rw [rest_none]; exact Nat.le_refl _
  · intro r hr
    obtain rfl := List.mem_singleton.1 hr
    show 0 + rest outs (List.replicate outs.length 0) ≤ _
    rw [rest_none]; omega
  · show 2 * rest outs (List.replicate outs.length 0) + 1 = _
    rw [rest_none]
end Go.Proofs.Ytipongpgmbhpkaa
