/-
  The law's from, as a function of lists: which blocks are come to from one without another one.
-/
import Derived.Test.YtipongpgmbhpkaaDomBC
namespace Go.Proofs.Ytipongpgmbhpkaa
set_option linter.unusedVariables false

def fromEdge (n : Nat) (but : Int) (b : Nat) (out : List Bool) (tt : Int) : List Bool := if out.getD b false = true ∧ 0 ≤ tt ∧ tt < (n : Int) ∧ tt ≠ but then out.set tt.toNat true else out
def fromRow (n : Nat) (but : Int) (out : List Bool) (r : List Int × Nat) : List Bool := r.1.foldl (fromEdge n but r.2) out
def fromRound (ways : List (List Int)) (but : Int) (out : List Bool) : List Bool := ways.zipIdx.foldl (fromRow ways.length but) out
def fromIter (ways : List (List Int)) (but : Int) : Nat → List Bool → List Bool
  | 0, out => out
  | k + 1, out => fromRound ways but (fromIter ways but k out)
def fromL (ways : List (List Int)) (a but : Int) : List Bool :=
  if a = but ∨ a < 0 ∨ (ways.length : Int) ≤ a then List.replicate ways.length false else fromIter ways but ways.length ((List.replicate ways.length false).set a.toNat true)
abbrev Tt (out : List Bool) (v : Nat) : Prop := out.getD v false = true
theorem tt_set {out : List Bool} {u : Nat} (hu : u < out.length) (v : Nat) : Tt (out.set u true) v ↔ v = u ∨ Tt out v := by
  unfold Tt
  rw [List.getD_eq_getElem?_getD, List.getD_eq_getElem?_getD]
  by_cases e : v = u
  · subst e; rw [List.getElem?_set_self hu]; simp
  · rw [List.getElem?_set_ne (by omega)]; simp [e]
theorem edge_len (n : Nat) (but : Int) (b : Nat) (out : List Bool) (tt : Int) : (fromEdge n but b out tt).length = out.length := by
  unfold fromEdge; split; rw [List.length_set]; rfl
theorem edge_more {n : Nat} {but : Int} {b : Nat} {out : List Bool} (hl : out.length = n) (tt : Int) {v : Nat} (h : Tt out v) : Tt (fromEdge n but b out tt) v := by
  unfold fromEdge
  split
  · rename_i c
    exact (tt_set (by omega) v).2 (.inr h)
  · exact h
theorem row_len (n : Nat) (but : Int) (b : Nat) : ∀ (row : List Int) (out : List Bool), (row.foldl (fromEdge n but b) out).length = out.length
  | [], _ => rfl
  | t :: row, out => by rw [List.foldl_cons, row_len n but b row, edge_len]
theorem row_more {n : Nat} {but : Int} {b : Nat} : ∀ (row : List Int) (out : List Bool), out.length = n → ∀ {v : Nat}, Tt out v → Tt (row.foldl (fromEdge n but b) out) v
  | [], _, _, _, h => h
  | t :: row, out, hl, v, h => by
    rw [List.foldl_cons]
    exact row_more row _ (by rw [edge_len]; exact hl) (edge_more hl t h)
theorem row_gets {n : Nat} {but : Int} {b : Nat} {t : Nat} (ht : t < n) (hb : (t : Int) ≠ but) : ∀ (row : List Int) (out : List Bool), out.length = n → Tt out b → (t : Int) ∈ row → Tt (row.foldl (fromEdge n but b) out) t
  | [], _, _, _, h => by cases h
  | u :: row, out, hl, ho, h => by
    rw [List.foldl_cons]
    rcases List.mem_cons.1 h with rfl | h
    · refine row_more row _ (by rw [edge_len]; exact hl) ?_
      unfold fromEdge
      rw [if_pos ⟨ho, by omega, by omega, hb⟩, Int.toNat_natCast]
      exact (tt_set (by omega) t).2 (.inl rfl)
    · exact row_gets ht hb row _ (by rw [edge_len]; exact hl) (edge_more hl u ho) h
theorem rows_len (n : Nat) (but : Int) : ∀ (l : List (List Int × Nat)) (out : List Bool), (l.foldl (fromRow n but) out).length = out.length
  | [], _ => rfl
  | r :: l, out => by rw [List.foldl_cons, rows_len n but l]; exact row_len n but r.2 r.1 out
theorem rows_more {n : Nat} {but : Int} : ∀ (l : List (List Int × Nat)) (out : List Bool), out.length = n → ∀ {v : Nat}, Tt out v → Tt (l.foldl (fromRow n but) out) v
  | [], _, _, _, h => h
  | r :: l, out, hl, v, h => by
    rw [List.foldl_cons]
    exact rows_more l _ ((row_len n but r.2 r.1 out).trans hl) (row_more r.1 out hl h)
theorem rows_gets {n : Nat} {but : Int} {b t : Nat} {row : List Int} (ht : t < n) (hb : (t : Int) ≠ but) (hr : (t : Int) ∈ row) : ∀ (l : List (List Int × Nat)) (out : List Bool), out.length = n → Tt out b → (row, b) ∈ l → Tt (l.foldl (fromRow n but) out) t
  | [], _, _, _, h => by cases h
  | r :: l, out, hl, ho, h => by
    rw [List.foldl_cons]
    rcases List.mem_cons.1 h with rfl | h
    · exact rows_more l _ ((row_len n but b row out).trans hl) (row_gets ht hb row out hl ho hr)
    · exact rows_gets ht hb hr l _ ((row_len n but r.2 r.1 out).trans hl) (row_more r.1 out hl ho) h
def ClosedF (ways : List (List Int)) (but : Int) (out : List Bool) : Prop := ∀ b t : Nat, Tt out b → b < ways.length → (t : Int) ∈ gr ways b → t < ways.length → (t : Int) ≠ but → Tt out t
theorem gr_of {ways : List (List Int)} {b : Nat} (hb : b < ways.length) : ways[b]? = some (gr ways b) := by
  unfold gr; rw [Int.toNat_natCast, List.getD_eq_getElem?_getD, List.getElem?_eq_getElem hb]; rfl
theorem round_gets {ways : List (List Int)} {but : Int} {out : List Bool} (hl : out.length = ways.length) {b t : Nat} (ho : Tt out b) (hb : b < ways.length) (hr : (t : Int) ∈ gr ways b) (ht : t < ways.length) (hn : (t : Int) ≠ but) : Tt (fromRound ways but out) t :=
  rows_gets ht hn hr _ out hl ho (List.mem_of_getElem? (zip_idx (gr_of hb)))
theorem round_len (ways : List (List Int)) (but : Int) (out : List Bool) : (fromRound ways but out).length = out.length := rows_len _ _ _ _
theorem set_same {out : List Bool} {u : Nat} (hu : u < out.length) (h : Tt out u) : out.set u true = out := by
  apply List.ext_getElem?
  intro v
  by_cases e : v = u
  · subst e
    rw [List.getElem?_set_self hu]
    unfold Tt at h
    rw [List.getD_eq_getElem?_getD, List.getElem?_eq_getElem hu] at h
    rw [List.getElem?_eq_getElem hu]
    exact congrArg some h.symm
  · rw [List.getElem?_set_ne (by omega)]
theorem row_same {ways : List (List Int)} {but : Int} {out : List Bool} (hl : out.length = ways.length) (hc : ClosedF ways but out) {b : Nat} (hb : b < ways.length) : ∀ (row : List Int), (∀ t ∈ row, t ∈ gr ways b) → row.foldl (fromEdge ways.length but b) out = out
  | [], _ => rfl
  | t :: row, h => by
    rw [List.foldl_cons]
    have e : fromEdge ways.length but b out t = out := by
      unfold fromEdge
      split
      · rename_i c
        obtain ⟨m, rfl⟩ : ∃ m : Nat, t = m := ⟨t.toNat, by omega⟩
        rw [Int.toNat_natCast]
        exact set_same (by omega) (hc b m c.1 hb (h _ (List.mem_cons_self ..)) (by omega) c.2.2.2)
      · rfl
    rw [e]
    exact row_same hl hc hb row (fun x hx => h x (List.mem_cons_of_mem _ hx))
theorem idx_rows (ways : List (List Int)) : ∀ r ∈ ways.zipIdx, r.2 < ways.length ∧ r.1 = gr ways r.2 := by
  intro r hr
  obtain ⟨i, hi⟩ := List.mem_iff_getElem?.1 hr
  have hil : i < ways.length := by have := (List.getElem?_eq_some_iff.1 hi).1; simpa using this
  have h2 := zip_idx (gr_of hil)
  rw [hi] at h2
  obtain rfl := Option.some.inj h2
  exact ⟨hil, rfl⟩
theorem round_same {ways : List (List Int)} {but : Int} {out : List Bool} (hl : out.length = ways.length) (hc : ClosedF ways but out) : fromRound ways but out = out := by
  have key : ∀ (l : List (List Int × Nat)), (∀ r ∈ l, r.2 < ways.length ∧ r.1 = gr ways r.2) → l.foldl (fromRow ways.length but) out = out := by
    intro l
    induction l with
    | nil => intro _; rfl
    | cons r l ih =>
      intro h
      obtain ⟨h1, h2⟩ := h r (List.mem_cons_self ..)
      rw [List.foldl_cons]
      have e : fromRow ways.length but out r = out := row_same hl hc h1 r.1 (fun t ht => by rw [← h2]; exact ht)
      rw [e]
      exact ih (fun x hx => h x (List.mem_cons_of_mem _ hx))
  exact key _ (idx_rows ways)
theorem cnt_le : ∀ (s s' : List Bool), s.length = s'.length → (∀ v, Tt s v → Tt s' v) → s.count true ≤ s'.count true
  | [], [], _, _ => Nat.le_refl _
  | [], _ :: _, h, _ => by cases h
  | _ :: _, [], h, _ => by cases h
  | a :: s, b :: s', hl, h => by
    have ih := cnt_le s s' (by simpa using hl) (fun v hv => by
      have := h (v + 1)
      simp only [Tt, List.getD_cons_succ] at this
      exact this hv)
    have h0 := h 0
    simp only [Tt, List.getD_cons_zero] at h0
    rw [List.count_cons, List.count_cons]
    cases a <;> cases b <;> simp_all <;> omega
theorem cnt_lt : ∀ (s s' : List Bool) (u : Nat), s.length = s'.length → (∀ v, Tt s v → Tt s' v) → ¬ Tt s u → Tt s' u → s.count true + 1 ≤ s'.count true
  | [], [], _, _, _, _, h => by simp [Tt] at h
  | [], _ :: _, _, h, _, _, _ => by cases h
  | _ :: _, [], _, h, _, _, _ => by cases h
  | a :: s, b :: s', 0, hl, h, h1, h2 => by
    have ih := cnt_le s s' (by simpa using hl) (fun v hv => by
      have := h (v + 1)
      simp only [Tt, List.getD_cons_succ] at this
      exact this hv)
    simp only [Tt, List.getD_cons_zero] at h1 h2
    have ha : a = false := by cases a; rfl; exact absurd rfl h1
    subst ha; subst h2
    rw [List.count_cons, List.count_cons, if_neg (by decide), if_pos (by decide)]
    omega
  | a :: s, b :: s', u + 1, hl, h, h1, h2 => by
    simp only [Tt, List.getD_cons_succ] at h1 h2
    have ih := cnt_lt s s' u (by simpa using hl) (fun v hv => by
      have := h (v + 1)
      simp only [Tt, List.getD_cons_succ] at this
      exact this hv) h1 h2
    have h0 := h 0
    simp only [Tt, List.getD_cons_zero] at h0
    rw [List.count_cons, List.count_cons]
    cases a <;> cases b <;> simp_all <;> omega
theorem iter_len (ways : List (List Int)) (but : Int) (out : List Bool) : ∀ k, (fromIter ways but k out).length = out.length
  | 0 => rfl
  | k + 1 => by unfold fromIter; rw [round_len, iter_len ways but out k]
theorem iter_grows {ways : List (List Int)} {but : Int} {out : List Bool} (hl : out.length = ways.length) : ∀ k, ClosedF ways but (fromIter ways but k out) ∨ k + out.count true ≤ (fromIter ways but k out).count true
  | 0 => .inr (by simp [fromIter])
  | k + 1 => by
    have hlk := (iter_len ways but out k).trans hl
    by_cases hc : ClosedF ways but (fromIter ways but k out)
    · left
      unfold fromIter
      rw [round_same hlk hc]
      exact hc
    · right
      have h1 := (iter_grows hl k).resolve_left hc
      unfold ClosedF at hc
      simp only [Classical.not_forall] at hc
      obtain ⟨b, t, h2, h3, h4, h5, h6, h7⟩ := hc
      have := cnt_lt (fromIter ways but k out) (fromIter ways but (k + 1) out) t (by show _ = (fromRound ways but (fromIter ways but k out)).length; rw [round_len]) (fun v hv => rows_more _ _ hlk hv) h7 (round_gets hlk h2 h3 h4 h5 h6)
      omega
theorem iter_closed {ways : List (List Int)} {but : Int} {out : List Bool} (hl : out.length = ways.length) (h1 : 0 < out.count true) : ClosedF ways but (fromIter ways but ways.length out) := by
  rcases iter_grows (but := but) hl ways.length with h | h
  · exact h
  · have := List.count_le_length (a := true) (l := fromIter ways but ways.length out)
    rw [iter_len, hl] at this
    omega
/-- What is come to. -/
inductive Rch (ways : List (List Int)) (but : Int) (a : Nat) : Nat → Prop
  | start : (a : Int) ≠ but → a < ways.length → Rch ways but a a
  | go (b t : Nat) : Rch ways but a b → b < ways.length → (t : Int) ∈ gr ways b → t < ways.length → (t : Int) ≠ but → Rch ways but a t
theorem rows_sound {ways : List (List Int)} {but : Int} {a : Nat} : ∀ (l : List (List Int × Nat)) (out : List Bool), out.length = ways.length → (∀ r ∈ l, r.2 < ways.length ∧ r.1 = gr ways r.2) → (∀ v, Tt out v → Rch ways but a v) → ∀ v, Tt (l.foldl (fromRow ways.length but) out) v → Rch ways but a v
  | [], _, _, _, h => h
  | r :: l, out, hl, hr, h => by
    rw [List.foldl_cons]
    obtain ⟨h1, h2⟩ := hr r (List.mem_cons_self ..)
    refine rows_sound l _ ((row_len _ _ _ _ _).trans hl) (fun x hx => hr x (List.mem_cons_of_mem _ hx)) ?_
    have key : ∀ (row : List Int) (out : List Bool), out.length = ways.length → (∀ t ∈ row, t ∈ gr ways r.2) → (∀ v, Tt out v → Rch ways but a v) → ∀ v, Tt (row.foldl (fromEdge ways.length but r.2) out) v → Rch ways but a v := by
      intro row
      induction row with
      | nil => intro out _ _ h; exact h
      | cons t row ih =>
        intro out hl hsub h
        rw [List.foldl_cons]
        refine ih _ ((edge_len _ _ _ _ _).trans hl) (fun x hx => hsub x (List.mem_cons_of_mem _ hx)) ?_
        intro v hv
        unfold fromEdge at hv
        split at hv
        · rename_i c
          obtain ⟨m, rfl⟩ : ∃ m : Nat, t = m := ⟨t.toNat, by omega⟩
          rw [Int.toNat_natCast] at hv
          rcases (tt_set (by omega) v).1 hv with rfl | hv
          · exact .go r.2 v (h _ c.1) h1 (hsub _ (List.mem_cons_self ..)) (by omega) c.2.2.2
          · exact h v hv
        · exact h v hv
    exact key r.1 out hl (fun t ht => by rw [← h2]; exact ht) h
theorem from_iff {ways : List (List Int)} {but : Int} {a v : Nat} (ha : a < ways.length) (hb : (a : Int) ≠ but) : Tt (fromL ways a but) v ↔ Rch ways but a v := by
  have h0 : ¬ ((a : Int) = but ∨ (a : Int) < 0 ∨ (ways.length : Int) ≤ a) := by
    rintro (h | h | h)
    · exact hb h
    · omega
    · omega
  unfold fromL
  rw [if_neg h0, Int.toNat_natCast]
  have hl : ((List.replicate ways.length false).set a true).length = ways.length := by simp
  have ht0 : ∀ v, Tt ((List.replicate ways.length false).set a true) v ↔ v = a := by
    intro v
    rw [tt_set (by simp; exact ha)]
    constructor
    · rintro (h | h)
      · exact h
      · unfold Tt at h
        rw [List.getD_eq_getElem?_getD, List.getElem?_replicate] at h
        split at h <;> simp at h
    · exact .inl
  constructor
  · have key : ∀ k, ∀ v, Tt (fromIter ways but k ((List.replicate ways.length false).set a true)) v → Rch ways but a v := by
      intro k
      induction k with
      | zero =>
        intro v hv
        obtain rfl := (ht0 v).1 hv
        exact .start hb ha
      | succ k ih => exact rows_sound _ _ ((iter_len _ _ _ k).trans hl) (idx_rows ways) ih
    exact key _ v
  · intro h
    have hcnt : 0 < ((List.replicate ways.length false).set a true).count true := by
      rw [List.count_pos_iff]
      exact List.mem_iff_getElem?.2 ⟨a, by rw [List.getElem?_set_self (by simp; exact ha)]⟩
    have hc := iter_closed (but := but) hl hcnt
    have hmore : ∀ k, Tt (fromIter ways but k ((List.replicate ways.length false).set a true)) a := by
      intro k
      induction k with
      | zero => exact (ht0 a).2 rfl
      | succ k ih => exact rows_more _ _ ((iter_len _ _ _ k).trans hl) ih
    induction h with
    | start => exact hmore _
    | go b t _ hbl hr ht hn ih => exact hc b t ih hbl hr ht hn
theorem from_len (ways : List (List Int)) (a but : Int) : (fromL ways a but).length = ways.length := by
  unfold fromL
  split
  · simp
  · rw [iter_len]; simp
theorem gr_outs {ways : List (List Int)} (b : Nat) : gr (outsOf ways) b = inRow ways.length (gr ways b) := by
  unfold gr outsOf
  rw [List.getD_eq_getElem?_getD, List.getD_eq_getElem?_getD, List.getElem?_map]
  cases ways[((b : Nat) : Int).toNat]? <;> rfl
theorem mem_outs {ways : List (List Int)} {b t : Nat} (ht : t < ways.length) : (t : Int) ∈ gr (outsOf ways) b ↔ (t : Int) ∈ gr ways b := by
  rw [gr_outs]
  unfold inRow
  rw [List.mem_filter]
  constructor
  · exact fun h => h.1
  · refine fun h => ⟨h, ?_⟩
    simp only [Bool.and_eq_true, decide_eq_true_eq]
    omega
/-- The law's all: the numbers that the walk has given. -/
theorem all_num {ways : List (List Int)} (h : ways ≠ []) {b : Nat} (hb : b < ways.length) : Tt (fromL ways ((0 : Nat) : Int) (-1)) b ↔ gi (walkedL (outsOf ways)).num b ≠ -1 := by
  have hl : (outsOf ways).length = ways.length := by unfold outsOf; rw [List.length_map]
  have hwl : 0 < ways.length := List.length_pos_iff.2 h
  have hw := walked_end (outs := outsOf ways) (List.length_pos_iff.1 (by omega))
  rw [from_iff hwl (by omega)]
  constructor
  · intro hr
    have key : ∀ v, Rch ways (-1) 0 v → v < ways.length ∧ gi (walkedL (outsOf ways)).num v ≠ -1 := by
      intro v hv
      induction hv with
      | start _ h2 => exact ⟨h2, by rw [hw.root]; omega⟩
      | go b t _ hbl hr ht _ ih => exact ⟨ht, hw.went b t (by omega) ih.2 ((mem_outs ht).2 hr) (by omega)⟩
    exact (key b hr).2
  · intro hn
    exact hw.least (fun v => Rch ways (-1) 0 v) (.start (by omega) hwl) (fun c t hc hcl hr htl => .go c t hc (by omega) ((mem_outs (by omega)).1 hr) (by omega) (by omega)) b (by omega) hn
end Go.Proofs.Ytipongpgmbhpkaa
