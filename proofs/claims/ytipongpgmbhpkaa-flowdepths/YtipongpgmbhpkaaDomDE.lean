/-
  Loops, as sets of blocks: what is over what, and which loops are in which.
  Loops: the way up to the farthest one that is found, and one search.
  Loops: a search to its end, and all of them one behind the other.
  The order: what is over a block is ahead of it.
  Depths: in how many loops each block is.
-/
import Derived.Test.YtipongpgmbhpkaaDomCE
import Derived.Test.YtipongpgmbhpkaaDomAB
import Derived.Test.YtipongpgmbhpkaaDomAL
import Derived.Test.YtipongpgmbhpkaaDomBF
namespace Go.Proofs.Ytipongpgmbhpkaa
set_option linter.unusedVariables false

theorem rch_in {ways : List (List Int)} {but : Int} {a b : Nat} (h : Rch ways but a b) : ((a : Int) ≠ but ∧ a < ways.length) ∧ (b : Int) ≠ but ∧ b < ways.length := by
  induction h with
  | start h1 h2 => exact ⟨⟨h1, h2⟩, h1, h2⟩
  | go b t _ h1 h2 h3 h4 ih => exact ⟨ih.1, h4, h3⟩
theorem rch_trans {ways : List (List Int)} {but : Int} {a b c : Nat} (h1 : Rch ways but a b) (h2 : Rch ways but b c) : Rch ways but a c := by
  induction h2 with
  | start => exact h1
  | go b t _ k1 k2 k3 k4 ih => exact .go b t ih k1 k2 k3 k4
theorem rch_edge {ways : List (List Int)} {but : Int} {a b : Nat} (ha : a < ways.length) (hna : (a : Int) ≠ but) (he : (b : Int) ∈ gr ways a) (hb : b < ways.length) (hnb : (b : Int) ≠ but) : Rch ways but a b := .go a b (.start hna ha) ha he hb hnb
theorem rch_ind {ways : List (List Int)} {but : Int} {c : Nat} {Q : Nat → Prop} (h0 : Q c) (hs : ∀ a b : Nat, a < ways.length → (a : Int) ≠ but → (b : Int) ∈ gr ways a → Rch ways but b c → Q b → Q a) {a : Nat} (h : Rch ways but a c) : Q a := by
  have key : ∀ b, Rch ways but a b → Rch ways but b c → Q b → Q a := by
    intro b hab
    induction hab with
    | start => exact fun _ h => h
    | go b t h1 k1 k2 k3 k4 ih =>
      intro htc hq
      have hbn := (rch_in h1).2.1
      exact ih (rch_trans (rch_edge k1 hbn k2 k3 k4) htc) (hs b t k1 hbn k2 htc hq)
  have hc := rch_in h
  exact key c h (.start hc.2.1 hc.2.2) h0
/-- It can be come to. -/
def Al (ways : List (List Int)) (b : Nat) : Prop := Rch ways (-1) 0 b
/-- It is on each way to it. -/
def Dm (ways : List (List Int)) (t b : Nat) : Prop := (ofL (outsOf ways)).over t b = true
section
variable {ways : List (List Int)} (h : ways ≠ [])
include h
theorem dm_iff {t b : Nat} (ht : t < ways.length) (hb : b < ways.length) : Dm ways t b ↔ Al ways b ∧ ¬ Rch ways (t : Int) 0 b := by
  unfold Dm Al
  rw [over_from h ht hb]
  have hwl : 0 < ways.length := List.length_pos_iff.2 h
  have h1 := from_iff (but := -1) (v := b) hwl (by omega)
  rw [Bool.and_eq_true, Bool.not_eq_true', ← Bool.not_eq_true]
  refine and_congr h1 (not_congr ?_)
  by_cases e : t = 0
  · subst e
    constructor
    · intro hc
      unfold fromL at hc
      rw [if_pos (.inl rfl), List.getD_eq_getElem?_getD, List.getElem?_replicate] at hc
      split at hc <;> simp at hc
    · intro hc; exact absurd rfl (rch_in hc).1.1
  · exact from_iff hwl (by omega)
theorem al_num {b : Nat} (hb : b < ways.length) : Al ways b ↔ gi (walkedL (outsOf ways)).num b ≠ -1 := by
  have hwl : 0 < ways.length := List.length_pos_iff.2 h
  unfold Al
  rw [← all_num h hb, from_iff hwl (by omega)]
omit h in
theorem al_step {a b : Nat} (ha : Al ways a) (hb : b < ways.length) (he : (b : Int) ∈ gr ways a) : Al ways b := .go a b ha (rch_in ha).2.2 he hb (by omega)
theorem dm_al {t b : Nat} (ht : t < ways.length) (hb : b < ways.length) (hd : Dm ways t b) : Al ways t ∧ Al ways b := by
  have := (over_iff (outs_ne h) (by rw [outs_len]; exact ht) (by rw [outs_len]; exact hb)).1 hd
  exact ⟨(al_num h ht).2 this.1, (al_num h hb).2 this.2.1⟩
theorem dm_refl {b : Nat} (hb : Al ways b) : Dm ways b b := (dm_iff h (rch_in hb).2.2 (rch_in hb).2.2).2 ⟨hb, fun hc => (rch_in hc).2.1 rfl⟩
theorem dm_trans {a b c : Nat} (ha : a < ways.length) (hb : b < ways.length) (hc : c < ways.length) (h1 : Dm ways a b) (h2 : Dm ways b c) : Dm ways a c := over_trans h hc hb ha h2 h1
theorem dm_anti {a b : Nat} (ha : a < ways.length) (hb : b < ways.length) (h1 : Dm ways a b) (h2 : Dm ways b a) : a = b := by
  refine Classical.byContradiction fun e => ?_
  have := over_anti h hb ha (fun e' => e e'.symm) h1
  unfold Dm at h2
  rw [this] at h2; cases h2
theorem dm_lin {a b c : Nat} (ha : a < ways.length) (hc : c < ways.length) (hb : b < ways.length) (h1 : Dm ways a b) (h2 : Dm ways c b) : Dm ways a c ∨ Dm ways c a := by
  by_cases e1 : Dm ways a c
  · exact .inl e1
  by_cases e2 : Dm ways c a
  · exact .inr e2
  exfalso
  have hac := (dm_al h ha hb h1).1
  have hcc := (dm_al h hc hb h2).1
  have hne : a ≠ c := fun e => e1 (by rw [← e]; exact dm_refl h hac)
  have r1 : Rch ways (a : Int) 0 c := Classical.byContradiction fun e => e1 ((dm_iff h ha hc).2 ⟨hcc, e⟩)
  have r2 : Rch ways (c : Int) 0 a := Classical.byContradiction fun e => e2 ((dm_iff h hc ha).2 ⟨hac, e⟩)
  have key : ∀ x, Rch ways (-1) 0 x → Rch ways (a : Int) 0 x ∨ Rch ways (c : Int) 0 x := by
    intro x hx
    induction hx with
    | start k1 k2 => exact .inl (.start (rch_in r1).1.1 k2)
    | go x y _ k1 k2 k3 k4 ih =>
      rcases ih with ih | ih
      · by_cases e : y = a
        · subst e; exact .inr r2
        · exact .inl (.go x y ih k1 k2 k3 (by omega))
      · by_cases e : y = c
        · subst e; exact .inl r1
        · exact .inr (.go x y ih k1 k2 k3 (by omega))
  obtain ⟨k1, k2⟩ := (dm_iff h ha hb).1 h1
  rcases key b k1 with e | e
  · exact k2 e
  · exact ((dm_iff h hc hb).1 h2).2 e
/-- From what is over it the way goes on without what is over that. -/
theorem dm_tail {a b c : Nat} (ha : a < ways.length) (hb : b < ways.length) (hc : c < ways.length) (h1 : Dm ways a b) (hne : a ≠ b) (h2 : Dm ways b c) : Rch ways (a : Int) b c := by
  have hba : ¬ Dm ways b a := fun e => hne (dm_anti h ha hb h1 e)
  have r1 : Rch ways (b : Int) 0 a := Classical.byContradiction fun e => hba ((dm_iff h hb ha).2 ⟨(dm_al h ha hb h1).1, e⟩)
  have key : ∀ x, Rch ways (-1) 0 x → Rch ways (b : Int) 0 x ∨ Rch ways (a : Int) b x ∨ Rch ways (b : Int) a x := by
    intro x hx
    induction hx with
    | start k1 k2 => exact .inl (.start (rch_in r1).1.1 k2)
    | go x y _ k1 k2 k3 k4 ih =>
      rcases ih with ih | ih | ih
      · by_cases e : y = b
        · subst e; exact .inr (.inl (.start (by omega) k3))
        · exact .inl (.go x y ih k1 k2 k3 (by omega))
      · by_cases e : y = a
        · subst e; exact .inr (.inr (.start (by omega) k3))
        · exact .inr (.inl (.go x y ih k1 k2 k3 (by omega)))
      · by_cases e : y = b
        · subst e; exact .inr (.inl (.start (by omega) k3))
        · exact .inr (.inr (.go x y ih k1 k2 k3 (by omega)))
  obtain ⟨k1, k2⟩ := (dm_iff h hb hc).1 h2
  rcases key c k1 with e | e | e
  · exact absurd e k2
  · exact e
  · exact absurd (rch_trans r1 e) k2
end
/-- It is in the loop of that top. -/
def Lp (ways : List (List Int)) (t b : Nat) : Prop := t < ways.length ∧ b < ways.length ∧ ∃ s, s < ways.length ∧ (t : Int) ∈ gr ways s ∧ Dm ways t s ∧ (b = t ∨ Al ways b ∧ Rch ways (t : Int) b s)
section
variable {ways : List (List Int)} (h : ways ≠ [])
include h
omit h in
theorem lp_top {t b : Nat} (hl : Lp ways t b) : Lp ways t t := by
  obtain ⟨h1, _, s, h2, h3, h4, _⟩ := hl
  exact ⟨h1, h1, s, h2, h3, h4, .inl rfl⟩
theorem lp_dm {t b : Nat} (hl : Lp ways t b) : Dm ways t b := by
  obtain ⟨ht, hb, s, hs, he, hd, h1⟩ := hl
  rcases h1 with rfl | ⟨h1, h2⟩
  · exact dm_refl h (dm_al h ht hs hd).1
  · exact (dm_iff h ht hb).2 ⟨h1, fun hc => ((dm_iff h ht hs).1 hd).2 (rch_trans hc h2)⟩
theorem lp_anti {t b : Nat} (h1 : Lp ways t b) (h2 : Lp ways b t) : t = b := dm_anti h h1.1 h1.2.1 (lp_dm h h1) (lp_dm h h2)
omit h in
theorem lp_in {t b p : Nat} (hl : Lp ways t b) (hne : b ≠ t) (hp : Al ways p) (he : (b : Int) ∈ gr ways p) : Lp ways t p := by
  obtain ⟨ht, hb, s, hs, he2, hd, h1⟩ := hl
  have hpn := (rch_in hp).2.2
  refine ⟨ht, hpn, s, hs, he2, hd, ?_⟩
  by_cases e : p = t
  · exact .inl e
  rcases h1 with h1 | ⟨h1, h2⟩
  · exact absurd h1 hne
  · exact .inr ⟨hp, rch_trans (rch_edge hpn (by omega) he hb (by omega)) h2⟩
theorem lp_first {t p : Nat} (ht : t < ways.length) (hp : p < ways.length) (he : (t : Int) ∈ gr ways p) (hd : Dm ways t p) : Lp ways t p := by
  refine ⟨ht, hp, p, hp, he, hd, ?_⟩
  by_cases e : p = t
  · exact .inl e
  · exact .inr ⟨(dm_al h ht hp hd).2, .start (by omega) hp⟩
theorem lp_lin {a c b : Nat} (h1 : Lp ways a b) (h2 : Lp ways c b) : Lp ways a c ∨ Lp ways c a := by
  have key : ∀ {a c b : Nat}, Lp ways a b → Lp ways c b → Dm ways a c → Lp ways a c := by
    intro a c b h1 h2 hd
    by_cases e : a = c
    · subst e; exact lp_top h1
    have dc := lp_dm h h2
    obtain ⟨ha, hb, s, hs, he, hds, k⟩ := h1
    have hc := h2.1
    refine ⟨ha, hc, s, hs, he, hds, .inr ⟨(dm_al h ha hc hd).2, ?_⟩⟩
    rcases k with rfl | ⟨k1, k2⟩
    · exact absurd (dm_anti h ha hc hd dc) e
    · exact rch_trans (dm_tail h ha hc hb hd e dc) k2
  rcases dm_lin h h1.1 h2.1 h1.2.1 (lp_dm h h1) (lp_dm h h2) with e | e
  · exact .inl (key h1 h2 e)
  · exact .inr (key h2 h1 e)
theorem lp_trans {d c b : Nat} (h1 : Lp ways c b) (h2 : Lp ways d c) : Lp ways d b := by
  by_cases e1 : c = d
  · subst e1; exact h1
  by_cases e2 : b = c
  · subst e2; exact h2
  have dcb := lp_dm h h1
  have ddc := lp_dm h h2
  by_cases e3 : b = d
  · subst e3
    exact absurd (dm_anti h h1.1 h2.1 dcb ddc) e1
  obtain ⟨hc, hb, s, hs, he, hds, k⟩ := h1
  obtain ⟨hd, _, s2, hs2, he2, hds2, k2⟩ := h2
  refine ⟨hd, hb, s2, hs2, he2, hds2, .inr ⟨(dm_al h hc hb dcb).2, ?_⟩⟩
  have k := (k.resolve_left e2).2
  have k2 := (k2.resolve_left e1).2
  have ncd : ¬ Dm ways c d := fun e => e1 (dm_anti h hc hd e ddc)
  have r0 : Rch ways (c : Int) 0 d := Classical.byContradiction fun e => ncd ((dm_iff h hc hd).2 ⟨(dm_al h hd hc ddc).1, e⟩)
  have key : ∀ x, Rch ways (c : Int) b x → Rch ways (d : Int) b x ∨ Rch ways (c : Int) d x := by
    intro x hx
    induction hx with
    | start k1 k2 => exact .inl (.start (by omega) k2)
    | go x y _ m1 m2 m3 m4 ih =>
      rcases ih with ih | ih
      · by_cases e : y = d
        · subst e; exact .inr (.start m4 m3)
        · exact .inl (.go x y ih m1 m2 m3 (by omega))
      · exact .inr (.go x y ih m1 m2 m3 m4)
  rcases key s k with r | r
  · exact rch_trans (.go s c r hs he hc (by omega)) k2
  · exact absurd (rch_trans r0 r) ((dm_iff h hc hs).1 hds).2
-- what is in a loop is found from its ways back
omit h in
theorem lp_ind {t : Nat} {Q : Nat → Prop} (h1 : ∀ p : Nat, p < ways.length → (t : Int) ∈ gr ways p → Dm ways t p → p ≠ t → Q p) (h2 : ∀ x y : Nat, x ≠ t → y ≠ t → Al ways x → (y : Int) ∈ gr ways x → Lp ways t y → Q y → Q x) {b : Nat} (hl : Lp ways t b) (hne : b ≠ t) : Q b := by
  obtain ⟨ht, hb, s, hs, he, hds, k⟩ := hl
  obtain ⟨k1, k2⟩ := k.resolve_left hne
  have hst : s ≠ t := fun e => (rch_in k2).2.1 (by rw [e])
  refine rch_ind (Q := fun b => Al ways b → Q b) (fun _ => h1 s hs he hds hst) ?_ k2 k1
  intro a b ha hna hab hbs hq hal
  have hbn := rch_in hbs
  have hbt : b ≠ t := fun e => hbn.1.1 (by rw [e])
  have halb := al_step hal hbn.1.2 hab
  exact h2 a b (fun e => hna (by rw [e])) hbt hal hab ⟨ht, hbn.1.2, s, hs, he, hds, .inr ⟨halb, hbs⟩⟩ (hq halb)
/-- How deep it lies in the tree. -/
theorem dm_rank : ∃ rk : Nat → Nat, (∀ b, b < ways.length → rk b < ways.length) ∧ ∀ a b, a < ways.length → b < ways.length → Dm ways a b → a ≠ b → rk a < rk b := by
  have hw := walked_end (outs_ne h)
  have hlow := low_of_walk (outs_ne h)
  have hpl : (walkedL (outsOf ways)).par.length ≤ ways.length := by
    obtain ⟨h1, h2⟩ := WS.ok.first (outs_ne h)
    have h3 := WS.ok.run (2 * edges (outsOf ways) + 2) _ h1 (by omega)
    have h4 := h3.1.par
    have h5 : (walkedL (outsOf ways)).par = ((WS.first (outsOf ways).length).run (outsOf ways) (2 * edges (outsOf ways) + 2)).s.par := rfl
    rw [h5]
    rw [outs_len] at h4 ⊢
    omega
  refine ⟨fun b => (gi (walkedL (outsOf ways)).num b).toNat, fun b hb => ?_, fun a b ha hb hd hne => ?_⟩
  · have hwl : 0 < ways.length := by omega
    rcases hw.num b (by rw [outs_len]; exact hb) with e | ⟨e1, e2⟩
    · dsimp only; rw [e]; exact hwl
    · dsimp only; omega
  · have hd' := (over_iff (outs_ne h) (by rw [outs_len]; exact ha) (by rw [outs_len]; exact hb)).1 hd
    rcases hw.num b (by rw [outs_len]; exact hb) with e | ⟨e1, e2⟩
    · exact absurd e hd'.2.1
    rcases hw.num a (by rw [outs_len]; exact ha) with e | ⟨e3, e4⟩
    · exact absurd e hd'.1
    have a1 := Anc.le hlow hd'.2.2 (by omega)
    dsimp only
    refine Nat.lt_of_le_of_ne a1 fun e => hne (hw.inj a b (by rw [outs_len]; exact ha) (by rw [outs_len]; exact hb) (by omega) hd'.1)
end
end Go.Proofs.Ytipongpgmbhpkaa

namespace Go.Proofs.Ytipongpgmbhpkaa
set_option linter.unusedVariables false

/-- One of those above it, as they are found so far. -/
inductive Ch (o : List Int) (r : Nat) : Nat → Prop
  | refl : Ch o r r
  | up (b c : Nat) : gi o b = (c : Int) → Ch o r c → Ch o r b
structure OutOk2 (ways : List (List Int)) (o : List Int) : Prop where
  ol : o.length = ways.length
  up : ∀ b : Nat, b < ways.length → gi o b = -1 ∨ ∃ t : Nat, t < ways.length ∧ gi o b = (t : Int) ∧ t ≠ b ∧ Lp ways t b
structure FarOk (ways : List (List Int)) (o far : List Int) : Prop where
  fl : far.length = ways.length
  up : ∀ b : Nat, b < ways.length → ∃ c : Nat, c < ways.length ∧ gi far b = (c : Int) ∧ Ch o c b ∧ (c = b → gi o b = -1)
theorem Ch.trans {o : List Int} {r c b : Nat} (h1 : Ch o r c) (h2 : Ch o c b) : Ch o r b := by
  induction h2 with
  | refl => exact h1
  | up b d e _ ih => exact .up b d e ih
theorem Ch.top {o : List Int} {r b : Nat} (h : Ch o r b) (hb : gi o b = -1) : r = b := by
  cases h with
  | refl => rfl
  | up _ c e _ => omega
theorem Ch.fin {o : List Int} {r q b : Nat} (h1 : Ch o r b) (hr : gi o r = -1) (h2 : Ch o q b) (hq : gi o q = -1) : r = q := by
  induction h1 with
  | refl => exact (h2.top hr).symm
  | up b c e _ ih =>
    cases h2 with
    | refl => omega
    | up _ d e2 h2 =>
      obtain rfl : c = d := by omega
      exact ih h2
section
variable {ways : List (List Int)} (h : ways ≠ [])
include h
theorem ch_lp {o : List Int} (ho : OutOk2 ways o) {r b : Nat} (hc : Ch o r b) (hb : b < ways.length) : r < ways.length ∧ (r = b ∨ r ≠ b ∧ Lp ways r b) := by
  induction hc with
  | refl => exact ⟨hb, .inl rfl⟩
  | up b c e _ ih =>
    rcases ho.up b hb with e2 | ⟨t, ht, e2, hne, hl⟩
    · omega
    obtain rfl : c = t := by omega
    obtain ⟨h1, h2⟩ := ih ht
    refine ⟨h1, .inr ?_⟩
    rcases h2 with rfl | ⟨h2, h3⟩
    · exact ⟨hne, hl⟩
    · refine ⟨fun e3 => ?_, lp_trans h hl h3⟩
      subst e3
      exact h2 (lp_anti h h3 hl)
theorem far_fine {o : List Int} (ho : OutOk2 ways o) {rk : Nat → Nat} (hrk : ∀ a b, a < ways.length → b < ways.length → Dm ways a b → a ≠ b → rk a < rk b) : ∀ (k : Nat) (far : List Int) (b : Nat), FarOk ways o far → b < ways.length → rk b ≤ k →
    reach k far b = true ∧ ∃ r : Nat, r < ways.length ∧ (Lo.farthest k far b).1 = (r : Int) ∧ gi o r = -1 ∧ Ch o r b ∧ FarOk ways o (Lo.farthest k far b).2
  | 0, far, b, hf, hb, hk => by
    obtain ⟨c, hc, e, hch, hce⟩ := hf.up b hb
    have hcb : c = b := by
      refine Classical.byContradiction fun hne => ?_
      have := (ch_lp h ho hch hb).2.resolve_left hne
      have := hrk c b hc hb (lp_dm h this.2) hne
      omega
    subst hcb
    refine ⟨?_, c, hb, rfl, hce rfl, .refl, hf⟩
    unfold reach
    rw [e]; simp
  | k + 1, far, b, hf, hb, hk => by
    obtain ⟨c, hc, e, hch, hce⟩ := hf.up b hb
    by_cases hcb : c = b
    · subst hcb
      have h1 : reach (k + 1) far (c : Int) = true := by unfold reach; rw [if_pos e]
      have h2 : Lo.farthest (k + 1) far (c : Int) = ((c : Int), far) := by unfold Lo.farthest; rw [if_pos e]
      rw [h2]
      exact ⟨h1, c, hb, rfl, hce rfl, .refl, hf⟩
    · have hlc := ((ch_lp h ho hch hb).2.resolve_left hcb).2
      have hr1 := hrk c b hc hb (lp_dm h hlc) hcb
      obtain ⟨d, hd, e2, hch2, hce2⟩ := hf.up c hc
      have hr2 : rk d < rk b := by
        rcases (ch_lp h ho hch2 hc).2 with rfl | ⟨h1, h2⟩
        · exact hr1
        · have := hrk d c hd hc (lp_dm h h2) h1
          omega
      have hne : ¬ (gi far b = (b : Int)) := by omega
      have hset : ∀ x : Nat, gi (far.set b (d : Int)) x = if x = b then (d : Int) else gi far x := fun x => set_at (by rw [hf.fl]; exact hb) _ x
      have hf1 : FarOk ways o (far.set b (d : Int)) := by
        refine ⟨by rw [List.length_set]; exact hf.fl, fun x hx => ?_⟩
        rw [hset x]
        by_cases ex : x = b
        · subst ex
          rw [if_pos rfl]
          exact ⟨d, hd, rfl, hch2.trans hch, fun e3 => by rw [e3] at hr2; omega⟩
        · rw [if_neg ex]
          exact hf.up x hx
      have e3 : (far.set ((b : Nat) : Int).toNat (gi far (gi far b))) = far.set b (d : Int) := by rw [e, e2, Int.toNat_natCast]
      have h1 : reach (k + 1) far (b : Int) = reach k (far.set b (d : Int)) (d : Int) := by
        conv => lhs; unfold reach
        rw [if_neg hne]
        dsimp only
        rw [e3, hset b, if_pos rfl]
      have h2 : Lo.farthest (k + 1) far (b : Int) = Lo.farthest k (far.set b (d : Int)) (d : Int) := by
        conv => lhs; unfold Lo.farthest
        rw [if_neg hne]
        dsimp only
        rw [e3, hset b, if_pos rfl]
      obtain ⟨i1, r, i2, i3, i4, i5, i6⟩ := far_fine ho hrk k _ d hf1 hd (by omega)
      rw [h1, h2]
      exact ⟨i1, r, i2, i3, i4, i5.trans (hch2.trans hch), i6⟩
theorem ch_root {o : List Int} (ho : OutOk2 ways o) : ∀ b : Nat, b < ways.length → ∃ r : Nat, r < ways.length ∧ Ch o r b ∧ gi o r = -1 := by
  obtain ⟨rk, hr0, hrk⟩ := dm_rank h
  have key : ∀ (k b : Nat), rk b ≤ k → b < ways.length → ∃ r : Nat, r < ways.length ∧ Ch o r b ∧ gi o r = -1 := by
    intro k
    induction k with
    | zero =>
      intro b hk hb
      rcases ho.up b hb with e | ⟨t, ht, e, hne, hl⟩
      · exact ⟨b, hb, .refl, e⟩
      · have := hrk t b ht hb (lp_dm h hl) hne; omega
    | succ k ih =>
      intro b hk hb
      rcases ho.up b hb with e | ⟨t, ht, e, hne, hl⟩
      · exact ⟨b, hb, .refl, e⟩
      · have := hrk t b ht hb (lp_dm h hl) hne
        obtain ⟨r, h1, h2, h3⟩ := ih t (by omega) ht
        exact ⟨r, h1, .up b t e h2, h3⟩
  exact fun b hb => key _ b (Nat.le_refl _) hb
end
/-- The nearest top of those that are found, for each block. -/
structure Found (ways : List (List Int)) (P : Nat → Prop) (o : List Int) : Prop where
  ok : OutOk2 ways o
  inP : ∀ b t : Nat, b < ways.length → gi o b = (t : Int) → P t
  none : ∀ b : Nat, b < ways.length → gi o b = -1 → ∀ t, P t → t ≠ b → ¬ Lp ways t b
  near : ∀ b t : Nat, b < ways.length → gi o b = (t : Int) → ∀ q, P q → q ≠ b → Lp ways q b → q = t ∨ Lp ways q t
section
variable {ways : List (List Int)} (h : ways ≠ [])
include h
theorem found_ch {P : Nat → Prop} {o : List Int} (hf : Found ways P o) {r : Nat} (hr : P r) : ∀ b : Nat, b < ways.length → Lp ways r b → r ≠ b → Ch o r b := by
  obtain ⟨rk, hr0, hrk⟩ := dm_rank h
  have key : ∀ (k b : Nat), rk b ≤ k → b < ways.length → Lp ways r b → r ≠ b → Ch o r b := by
    intro k
    induction k with
    | zero =>
      intro b hk hb hl hne
      have := hrk r b hl.1 hb (lp_dm h hl) hne; omega
    | succ k ih =>
      intro b hk hb hl hne
      rcases hf.ok.up b hb with e | ⟨t, ht, e, hne2, hl2⟩
      · exact absurd hl (hf.none b hb e r hr hne)
      · have := hrk t b ht hb (lp_dm h hl2) hne2
        rcases hf.near b t hb e r hr hne hl with rfl | hlt
        · exact .up b r e .refl
        · by_cases e2 : r = t
          · subst e2; exact .up b r e .refl
          · exact .up b t e (ih t (by omega) ht hlt e2)
  exact fun b hb => key _ b (Nat.le_refl _) hb
omit h in
theorem ch_inP {P : Nat → Prop} {o : List Int} (hf : Found ways P o) {r b : Nat} (hc : Ch o r b) (hb : b < ways.length) (hne : r ≠ b) : P r := by
  induction hc with
  | refl => exact absurd rfl hne
  | up b c e h1 ih =>
    have hcP := hf.inP b c hb e
    rcases hf.ok.up b hb with e2 | ⟨t, ht, e2, _, _⟩
    · omega
    obtain rfl : c = t := by omega
    by_cases e3 : r = c
    · subst e3; exact hcP
    · exact ih ht e3
end
/-- It has been met in the search. -/
def Qc (ways : List (List Int)) (o0 o : List Int) (top p : Nat) : Prop := p = top ∨ ∃ r : Nat, r < ways.length ∧ Ch o0 r p ∧ gi o0 r = -1 ∧ gi o r = (top : Int)
structure Mid (ways : List (List Int)) (o0 : List Int) (top : Nat) (left : List Int) (l : Lo) : Prop where
  ok : OutOk2 ways l.outer
  far : FarOk ways l.outer l.far
  out : ∀ b : Nat, b < ways.length → gi l.outer b = gi o0 b ∨ (gi o0 b = -1 ∧ gi l.outer b = (top : Int) ∧ b ≠ top)
  inl : ∀ x ∈ left, ∃ y : Nat, x = (y : Int) ∧ Lp ways top y
  one : ∀ p : Nat, p < ways.length → (top : Int) ∈ gr ways p → Dm ways top p → (p : Int) ∈ left ∨ Qc ways o0 l.outer top p
  two : ∀ b p : Nat, b < ways.length → gi o0 b = -1 → gi l.outer b = (top : Int) → (b : Int) ∈ gr ways p → p < ways.length → Dm ways top p → (p : Int) ∈ left ∨ Qc ways o0 l.outer top p
theorem ch_more {ways : List (List Int)} {o0 o : List Int} {top : Nat} (h0 : OutOk2 ways o0) (hout : ∀ b : Nat, b < ways.length → gi o b = gi o0 b ∨ (gi o0 b = -1 ∧ gi o b = (top : Int) ∧ b ≠ top)) {r b : Nat} (hc : Ch o0 r b) (hb : b < ways.length) : Ch o r b := by
  induction hc with
  | refl => exact .refl
  | up b c e _ ih =>
    rcases h0.up b hb with e2 | ⟨t, ht, e2, _, _⟩
    · omega
    obtain rfl : c = t := by omega
    rcases hout b hb with e3 | ⟨e3, _⟩
    · exact .up b c (e3.trans e) (ih ht)
    · omega
section
variable {ways : List (List Int)} (h : ways ≠ [])
include h
theorem mid_pop {P : Nat → Prop} {o0 : List Int} {top : Nat} (hf : Found ways P o0) (ht : top < ways.length) (hP : ¬ P top) (hord : ∀ t, P t → ¬ Dm ways t top)
    {ins : List (List Int)} (hI : ∀ b : Nat, b < ways.length → ∀ x, x ∈ gr ins b ↔ ∃ p : Nat, x = (p : Int) ∧ p < ways.length ∧ (b : Int) ∈ gr ways p)
    {left : List Int} {p : Int} {l : Lo} (hm : Mid ways o0 top (left ++ [p]) l) :
    reach l.far.length l.far p = true ∧ ∃ r : Nat, r < ways.length ∧ (Lo.farthest l.far.length l.far p).1 = (r : Int) ∧ gi l.outer r = -1 ∧
      (r = top → Mid ways o0 top left ⟨l.outer, (Lo.farthest l.far.length l.far p).2⟩) ∧
      (r ≠ top → Mid ways o0 top (left ++ (gr ins r).filter (fun b => (ofL (outsOf ways)).over top b)) ⟨l.outer.set r top, (Lo.farthest l.far.length l.far p).2.set r top⟩) := by
  obtain ⟨rk, hr0, hrk⟩ := dm_rank h
  obtain ⟨y, rfl, hly⟩ := hm.inl p (by simp)
  have hyn := hly.2.1
  have hot : gi l.outer top = -1 := by
    rcases hm.out top ht with e | ⟨_, _, e⟩
    · rcases hf.ok.up top ht with e2 | ⟨t, htn, e2, hne, hl⟩
      · omega
      · exact absurd (lp_dm h hl) (hord t (hf.inP top t ht e2))
    · exact absurd rfl e
  obtain ⟨h1, r, h2, h3, h4, h5, h6⟩ := far_fine h hm.ok hrk l.far.length l.far y hm.far hyn (by rw [hm.far.fl]; have := hr0 y hyn; omega)
  refine ⟨h1, r, h2, h3, h4, fun e => ?_, fun e => ?_⟩
  · subst e
    have hq : Qc ways o0 l.outer r y := by
      obtain ⟨q, q1, q2, q3⟩ := ch_root h hf.ok y hyn
      rcases hm.out q q1 with e | ⟨_, e, _⟩
      · have := Ch.fin (ch_more hf.ok hm.out q2 hyn) (e.trans q3) h5 h4
        subst this
        by_cases e2 : q = y
        · exact .inl e2.symm
        · exact absurd (ch_inP hf q2 hyn e2) hP
      · exact .inr ⟨q, q1, q2, q3, e⟩
    have hk : ∀ x : Int, x ∈ left ++ [(y : Int)] → x ∈ left ∨ x = (y : Int) := fun x hx => by
      rcases List.mem_append.1 hx with hx | hx
      · exact .inl hx
      · exact .inr (by simpa using hx)
    refine ⟨hm.ok, h6, hm.out, fun x hx => hm.inl x (List.mem_append_left _ hx), fun p p1 p2 p3 => ?_, fun b p b1 b2 b3 b4 p1 p2 => ?_⟩
    · rcases hm.one p p1 p2 p3 with hx | hx
      · rcases hk _ hx with hx | hx
        · exact .inl hx
        · obtain rfl : p = y := by omega
          exact .inr hq
      · exact .inr hx
    · rcases hm.two b p b1 b2 b3 b4 p1 p2 with hx | hx
      · rcases hk _ hx with hx | hx
        · exact .inl hx
        · obtain rfl : p = y := by omega
          exact .inr hq
      · exact .inr hx
  · have hlr : Lp ways top r := by
      rcases (ch_lp h hm.ok h5 hyn).2 with e2 | ⟨e2, hlr⟩
      · subst e2; exact hly
      · rcases lp_lin h hly hlr with hx | hx
        · exact hx
        · exfalso
          have hPr : P r := by
            have hkey : ∀ b, Ch l.outer r b → b < ways.length → r ≠ b → P r := by
              intro b hc
              induction hc with
              | refl => exact fun _ hne => absurd rfl hne
              | up b c e3 _ ih =>
                intro hb hne
                rcases hm.ok.up b hb with e4 | ⟨t, htn, e4, _, _⟩
                · omega
                obtain rfl : c = t := by omega
                by_cases e5 : r = c
                · subst e5
                  rcases hm.out b hb with e6 | ⟨_, e6, _⟩
                  · exact hf.inP b r hb (by omega)
                  · omega
                · exact ih htn e5
            exact hkey y h5 hyn e2
          exact hord r hPr (lp_dm h hx)
    have hor : gi o0 r = -1 := by
      rcases hm.out r h2 with e2 | ⟨e2, _, _⟩ <;> omega
    have hset : ∀ x : Nat, gi (l.outer.set r (top : Int)) x = if x = r then (top : Int) else gi l.outer x := fun x => set_at (by rw [hm.ok.ol]; exact h2) _ x
    have hset2 : ∀ x : Nat, gi ((Lo.farthest l.far.length l.far (y : Int)).2.set r (top : Int)) x = if x = r then (top : Int) else gi (Lo.farthest l.far.length l.far (y : Int)).2 x := fun x => set_at (by rw [h6.fl]; exact h2) _ x
    have hout : ∀ b : Nat, b < ways.length → gi (l.outer.set r (top : Int)) b = gi o0 b ∨ (gi o0 b = -1 ∧ gi (l.outer.set r (top : Int)) b = (top : Int) ∧ b ≠ top) := by
      intro b hb
      rw [hset b]
      by_cases e2 : b = r
      · subst e2
        rw [if_pos rfl]
        exact .inr ⟨hor, rfl, e⟩
      · rw [if_neg e2]; exact hm.out b hb
    have hchm : ∀ {c b : Nat}, Ch l.outer c b → Ch (l.outer.set r (top : Int)) c b := by
      intro c b hc
      induction hc with
      | refl => exact .refl
      | up b d e2 _ ih =>
        refine .up b d ?_ ih
        rw [hset b, if_neg (fun e3 => by rw [e3] at e2; omega)]
        exact e2
    have hok : OutOk2 ways (l.outer.set r (top : Int)) := by
      refine ⟨by rw [List.length_set]; exact hm.ok.ol, fun b hb => ?_⟩
      rw [hset b]
      by_cases e2 : b = r
      · subst e2
        rw [if_pos rfl]
        exact .inr ⟨top, ht, rfl, fun e3 => e e3.symm, hlr⟩
      · rw [if_neg e2]; exact hm.ok.up b hb
    have hfar : FarOk ways (l.outer.set r (top : Int)) ((Lo.farthest l.far.length l.far (y : Int)).2.set r (top : Int)) := by
      refine ⟨by rw [List.length_set]; exact h6.fl, fun b hb => ?_⟩
      rw [hset2 b, hset b]
      by_cases e2 : b = r
      · subst e2
        rw [if_pos rfl, if_pos rfl]
        exact ⟨top, ht, rfl, .up b top (by rw [hset b, if_pos rfl]) .refl, fun e3 => absurd e3.symm e⟩
      · rw [if_neg e2, if_neg e2]
        obtain ⟨c, c1, c2, c3, c4⟩ := h6.up b hb
        exact ⟨c, c1, c2, hchm c3, c4⟩
    have hqm : ∀ {x : Nat}, Qc ways o0 l.outer top x → Qc ways o0 (l.outer.set r (top : Int)) top x := by
      rintro x (hx | ⟨q, q1, q2, q3, q4⟩)
      · exact .inl hx
      · refine .inr ⟨q, q1, q2, q3, ?_⟩
        rw [hset q]
        split
        · rfl
        · exact q4
    have hq : Qc ways o0 (l.outer.set r (top : Int)) top y := by
      obtain ⟨q, q1, q2, q3⟩ := ch_root h hf.ok y hyn
      refine .inr ⟨q, q1, q2, q3, ?_⟩
      rw [hset q]
      split
      · rfl
      · rename_i e2
        rcases hm.out q q1 with e3 | ⟨_, e3, _⟩
        · exact absurd (Ch.fin (ch_more hf.ok hm.out q2 hyn) (e3.trans q3) h5 h4) e2
        · exact e3
    have hk : ∀ x : Int, x ∈ left ++ [(y : Int)] → x ∈ left ++ (gr ins r).filter (fun b => (ofL (outsOf ways)).over top b) ∨ x = (y : Int) := fun x hx => by
      rcases List.mem_append.1 hx with hx | hx
      · exact .inl (List.mem_append_left _ hx)
      · exact .inr (by simpa using hx)
    refine ⟨hok, hfar, hout, fun x hx => ?_, fun p p1 p2 p3 => ?_, fun b p b1 b2 b3 b4 p1 p2 => ?_⟩
    · rcases List.mem_append.1 hx with hx | hx
      · exact hm.inl x (List.mem_append_left _ hx)
      · obtain ⟨hx1, hx2⟩ := List.mem_filter.1 hx
        obtain ⟨p, rfl, p1, p2⟩ := (hI r h2 x).1 hx1
        exact ⟨p, rfl, lp_in hlr e (dm_al h ht p1 hx2).2 p2⟩
    · rcases hm.one p p1 p2 p3 with hx | hx
      · rcases hk _ hx with hx | hx
        · exact .inl hx
        · obtain rfl : p = y := by omega
          exact .inr hq
      · exact .inr (hqm hx)
    · by_cases e2 : b = r
      · subst e2
        exact .inl (List.mem_append_right _ (List.mem_filter.2 ⟨(hI b b1 _).2 ⟨p, rfl, p1, b4⟩, p2⟩))
      · dsimp only at b3
        rw [hset b, if_neg e2] at b3
        rcases hm.two b p b1 b2 b3 b4 p1 p2 with hx | hx
        · rcases hk _ hx with hx | hx
          · exact .inl hx
          · obtain rfl : p = y := by omega
            exact .inr hq
        · exact .inr (hqm hx)
end
end Go.Proofs.Ytipongpgmbhpkaa

namespace Go.Proofs.Ytipongpgmbhpkaa
set_option linter.unusedVariables false

/-- What may still be put on the pile. -/
def pot (ins : List (List Int)) (o : List Int) : Nat → Nat
  | 0 => 0
  | k + 1 => pot ins o k + if gi o k = -1 then (gr ins k).length else 0
theorem pot_set {ins : List (List Int)} {o : List Int} {r : Nat} (hr : r < o.length) (h : gi o r = -1) (t : Nat) : ∀ k, pot ins (o.set r (t : Int)) k + (if r < k then (gr ins r).length else 0) = pot ins o k
  | 0 => by simp [pot]
  | k + 1 => by
    have ih := pot_set (ins := ins) hr h t k
    have hs : gi (o.set r (t : Int)) k = if k = r then (t : Int) else gi o k := set_at hr _ k
    simp only [pot]
    rw [hs]
    by_cases e : k = r
    · subst e
      rw [if_pos rfl, if_neg (show ¬ ((t : Int) = -1) by omega), if_pos (show k < k + 1 by omega), if_pos h]
      rw [if_neg (show ¬ (k < k) by omega)] at ih
      omega
    · rw [if_neg e]
      by_cases e2 : r < k
      · rw [if_pos e2] at ih
        rw [if_pos (show r < k + 1 by omega)]
        omega
      · rw [if_neg e2] at ih
        rw [if_neg (show ¬ (r < k + 1) by omega)]
        omega
theorem pot_le (ins : List (List Int)) (o : List Int) : ∀ k, k ≤ ins.length → pot ins o k ≤ ((ins.take k).map List.length).sum
  | 0, _ => by simp [pot]
  | k + 1, h => by
    have ih := pot_le ins o k (by omega)
    simp only [pot]
    have hg : gr ins (k : Int) = ins[k] := by unfold gr; rw [Int.toNat_natCast, List.getD_eq_getElem?_getD, List.getElem?_eq_getElem (by omega)]; rfl
    rw [List.take_succ_eq_append_getElem (by omega), List.map_append, List.sum_append, hg]
    simp only [List.map_cons, List.map_nil, List.sum_cons, List.sum_nil]
    split <;> omega
theorem gr_edges {ins : List (List Int)} {b : Nat} (hb : b < ins.length) : (gr ins b).length ≤ edges ins := by
  have hg : gr ins (b : Int) = ins[b] := by unfold gr; rw [Int.toNat_natCast, List.getD_eq_getElem?_getD, List.getElem?_eq_getElem hb]; rfl
  rw [hg]
  unfold edges
  induction ins generalizing b with
  | nil => simp at hb
  | cons a l ih =>
    rw [List.map_cons, List.sum_cons]
    cases b with
    | zero => rw [List.getElem_cons_zero]; omega
    | succ b =>
      have hb' : b < l.length := by simpa using hb
      have := ih hb' (by unfold gr; rw [Int.toNat_natCast, List.getD_eq_getElem?_getD, List.getElem?_eq_getElem hb']; rfl)
      rw [List.getElem_cons_succ]; omega
theorem take_last {l : List Int} (h : l ≠ []) : l = l.take (l.length - 1) ++ [l.getLastD 0] := by
  rw [← List.dropLast_eq_take]
  have h2 := List.dropLast_concat_getLast h
  rw [show l.getLastD 0 = l.getLast h from by rw [List.getLastD_eq_getLast?, List.getLast?_eq_some_getLast h]; rfl]
  exact h2.symm
theorem findOk_mk {t : Tr} {ins : List (List Int)} {top : Int} {k : Nat} {left : List Int} {l : Lo} (hne : left ≠ []) (h1 : left.length ≤ 1000000) (h2 : reach l.far.length l.far (left.getLastD 0) = true)
    (h3 : (if (Lo.farthest l.far.length l.far (left.getLastD 0)).1 = top then findOk t ins top k (left.take (left.length - 1)) ⟨l.outer, (Lo.farthest l.far.length l.far (left.getLastD 0)).2⟩ else findOk t ins top k (left.take (left.length - 1) ++ (gr ins (Lo.farthest l.far.length l.far (left.getLastD 0)).1).filter (fun b => t.over top b)) ⟨l.outer.set (Lo.farthest l.far.length l.far (left.getLastD 0)).1.toNat top, (Lo.farthest l.far.length l.far (left.getLastD 0)).2.set (Lo.farthest l.far.length l.far (left.getLastD 0)).1.toNat top⟩) = true) : findOk t ins top (k + 1) left l = true := by
  cases left with
  | nil => exact absurd rfl hne
  | cons a tl =>
    unfold findOk
    simp only [Bool.and_eq_true, decide_eq_true_eq]
    exact ⟨h1, h2, h3⟩
section
variable {ways : List (List Int)} (h : ways ≠ [])
include h
theorem find_fine {P : Nat → Prop} {o0 : List Int} {top : Nat} (hf : Found ways P o0) (ht : top < ways.length) (hP : ¬ P top) (hord : ∀ t, P t → ¬ Dm ways t top)
    {ins : List (List Int)} (hil : ins.length = ways.length) (hI : ∀ b : Nat, b < ways.length → ∀ x, x ∈ gr ins b ↔ ∃ p : Nat, x = (p : Int) ∧ p < ways.length ∧ (b : Int) ∈ gr ways p) : ∀ (K : Nat) (left : List Int) (l : Lo), Mid ways o0 top left l → left.length + pot ins l.outer ways.length ≤ K → K ≤ 1000000 →
    findOk (ofL (outsOf ways)) ins top K left l = true ∧ Mid ways o0 top [] (Lo.find (ofL (outsOf ways)) ins top K left l)
  | 0, left, l, hm, hk, _ => by
    obtain rfl : left = [] := List.length_eq_zero_iff.1 (by omega)
    exact ⟨rfl, hm⟩
  | K + 1, left, l, hm, hk, hK => by
    by_cases hne : left = []
    · subst hne
      rw [find_nil]
      exact ⟨rfl, hm⟩
    · have hl := take_last hne
      have hlen : left.length = (left.take (left.length - 1)).length + 1 := by
        have := List.length_pos_iff.2 hne
        rw [List.length_take]; omega
      rw [hl] at hm
      obtain ⟨h1, r, h2, h3, h4, h5, h6⟩ := mid_pop h hf ht hP hord hI hm
      rw [find_step hne]
      by_cases e : r = top
      · have e2 : (Lo.farthest l.far.length l.far (left.getLastD 0)).1 = (top : Int) := by rw [h3, e]
        obtain ⟨i1, i2⟩ := find_fine hf ht hP hord hil hI K _ _ (h5 e) (by dsimp only; omega) (by omega)
        rw [if_pos e2]
        exact ⟨findOk_mk hne (by omega) h1 (by rw [if_pos e2]; exact i1), i2⟩
      · have e2 : ¬ ((Lo.farthest l.far.length l.far (left.getLastD 0)).1 = (top : Int)) := by rw [h3]; omega
        have hps := pot_set (ins := ins) (by rw [hm.ok.ol]; exact h2) h4 top ways.length
        rw [if_pos h2] at hps
        have hfl := List.length_filter_le (fun b => (ofL (outsOf ways)).over top b) (gr ins r)
        obtain ⟨i1, i2⟩ := find_fine hf ht hP hord hil hI K _ _ (h6 e) (by rw [List.length_append]; dsimp only; omega) (by omega)
        rw [if_neg e2]
        refine ⟨findOk_mk hne (by omega) h1 ?_, ?_⟩
        · rw [if_neg e2, h3, Int.toNat_natCast]; exact i1
        · rw [h3, Int.toNat_natCast]; exact i2
theorem mid_start {P : Nat → Prop} {o0 far : List Int} {top : Nat} (hf : Found ways P o0) (hfar : FarOk ways o0 far) (ht : top < ways.length)
    {ins : List (List Int)} (hI : ∀ b : Nat, b < ways.length → ∀ x, x ∈ gr ins b ↔ ∃ p : Nat, x = (p : Int) ∧ p < ways.length ∧ (b : Int) ∈ gr ways p) (hot : gi o0 top = -1) (hPt : ¬ P top) :
    Mid ways o0 top ((gr ins top).filter (fun c => (ofL (outsOf ways)).over top c)) ⟨o0, far⟩ := by
  refine ⟨hf.ok, hfar, fun b hb => .inl rfl, fun x hx => ?_, fun p p1 p2 p3 => ?_, fun b p b1 b2 b3 b4 p1 p2 => ?_⟩
  · obtain ⟨hx1, hx2⟩ := List.mem_filter.1 hx
    obtain ⟨p, rfl, p1, p2⟩ := (hI top ht x).1 hx1
    exact ⟨p, rfl, lp_first h ht p1 p2 hx2⟩
  · exact .inl (List.mem_filter.2 ⟨(hI top ht _).2 ⟨p, rfl, p1, p2⟩, p3⟩)
  · dsimp only at b3
    omega
theorem found_next {P : Nat → Prop} {o0 : List Int} {top : Nat} (hf : Found ways P o0) (ht : top < ways.length) (hP : ¬ P top) (hord : ∀ t, P t → ¬ Dm ways t top) {l : Lo} (hm : Mid ways o0 top [] l) : Found ways (fun t => P t ∨ t = top) l.outer := by
  have hin : ∀ b, Lp ways top b → b ≠ top → Qc ways o0 l.outer top b := by
    intro b hl hne
    refine lp_ind (Q := fun b => Qc ways o0 l.outer top b) (fun p p1 p2 p3 p4 => ?_) (fun x y hx hy hax hxy hly hq => ?_) hl hne
    · rcases hm.one p p1 p2 p3 with e | e
      · cases e
      · exact e
    · have hxn := (rch_in hax).2.2
      have hlx := lp_in hly hy hax hxy
      have hdx := lp_dm h hlx
      rcases hq with e | ⟨r, r1, r2, r3, r4⟩
      · exact absurd e hy
      · rcases (ch_lp h hf.ok r2 hly.2.1).2 with e | ⟨e, hlr⟩
        · subst e
          rcases hm.two r x r1 r3 r4 hxy hxn hdx with e | e
          · cases e
          · exact e
        · have hPr := ch_inP hf r2 hly.2.1 e
          have hlrx := lp_in hlr (fun e2 => e e2.symm) hax hxy
          refine .inr ⟨r, r1, ?_, r3, r4⟩
          by_cases e2 : r = x
          · subst e2; exact .refl
          · exact found_ch h hf hPr x hxn hlrx e2
  refine ⟨hm.ok, fun b t hb e => ?_, fun b hb e t hPt hne hl => ?_, fun b t hb e q hPq hne hl => ?_⟩
  · rcases hm.out b hb with e2 | ⟨_, e2, _⟩
    · exact .inl (hf.inP b t hb (by omega))
    · exact .inr (by omega)
  · rcases hm.out b hb with e2 | ⟨_, e2, _⟩
    · rcases hPt with hPt | rfl
      · exact hf.none b hb (by omega) t hPt hne hl
      · rcases hin b hl (fun e3 => hne e3.symm) with e3 | ⟨r, r1, r2, r3, r4⟩
        · exact hne e3.symm
        · have := r2.top (by omega)
          subst this
          omega
    · omega
  · rcases hm.out b hb with e2 | ⟨e2, e3, _⟩
    · have e3 : gi o0 b = (t : Int) := by omega
      rcases hPq with hPq | rfl
      · exact hf.near b t hb e3 q hPq hne hl
      · rcases hf.ok.up b hb with e4 | ⟨t2, _, e4, _, hl2⟩
        · omega
        obtain rfl : t = t2 := by omega
        rcases lp_lin h hl hl2 with e5 | e5
        · exact .inr e5
        · exact absurd (lp_dm h e5) (hord t (hf.inP b t hb e3))
    · rcases hPq with hPq | rfl
      · exact absurd hl (hf.none b hb e2 q hPq hne)
      · exact .inl (by omega)
theorem first_some {top : Nat} (ht : top < ways.length) {ins : List (List Int)} (hI : ∀ b : Nat, b < ways.length → ∀ x, x ∈ gr ins b ↔ ∃ p : Nat, x = (p : Int) ∧ p < ways.length ∧ (b : Int) ∈ gr ways p) : (!((gr ins top).filter (fun c => (ofL (outsOf ways)).over top c)).isEmpty) = true ↔ Lp ways top top := by
  constructor
  · intro hc
    cases hg : (gr ins (top : Int)).filter (fun c => (ofL (outsOf ways)).over top c) with
    | nil => rw [hg] at hc; cases hc
    | cons x l =>
      have hx : x ∈ (gr ins (top : Int)).filter (fun c => (ofL (outsOf ways)).over top c) := by rw [hg]; exact List.mem_cons_self ..
      obtain ⟨hx1, hx2⟩ := List.mem_filter.1 hx
      obtain ⟨p, rfl, p1, p2⟩ := (hI top ht x).1 hx1
      exact lp_top (lp_first h ht p1 p2 hx2)
  · rintro ⟨_, _, s, hs, he, hd, _⟩
    have : (s : Int) ∈ (gr ins (top : Int)).filter (fun c => (ofL (outsOf ways)).over top c) := List.mem_filter.2 ⟨(hI top ht _).2 ⟨s, rfl, hs, he⟩, hd⟩
    cases hg : (gr ins (top : Int)).filter (fun c => (ofL (outsOf ways)).over top c) with
    | nil => rw [hg] at this; cases this
    | cons x l => rfl
/-- All searches, in such an order that what is over another one comes behind it. -/
theorem tops_fine {all : List Int} (hnd : all.Nodup) (hnat : ∀ x ∈ all, ∃ y : Nat, x = (y : Int) ∧ y < ways.length) (hord : ∀ p (y : Nat) q, all = p ++ (y : Int) :: q → ∀ t : Nat, t < ways.length → Dm ways t y → t ≠ y → (t : Int) ∈ q)
    {ins : List (List Int)} (hil : ins.length = ways.length) (hI : ∀ b : Nat, b < ways.length → ∀ x, x ∈ gr ins b ↔ ∃ p : Nat, x = (p : Int) ∧ p < ways.length ∧ (b : Int) ∈ gr ways p) {K : Nat} (hK : 2 * edges ins ≤ K) (hK2 : K ≤ 1000000) :
    ∀ (bs done : List Int) (l : Lo) (tops : List Bool), all = done ++ bs → Found ways (fun t => (t : Int) ∈ done) l.outer → FarOk ways l.outer l.far → tops.length = ways.length → (∀ b : Nat, b < ways.length → (tops.getD b false = true ↔ (b : Int) ∈ done ∧ Lp ways b b)) →
    findsOk (ofL (outsOf ways)) ins K bs l = true ∧ Found ways (fun t => (t : Int) ∈ all) (bs.foldl (topStep (ofL (outsOf ways)) ins K) (l, tops)).1.outer ∧ (∀ b : Nat, b < ways.length → ((bs.foldl (topStep (ofL (outsOf ways)) ins K) (l, tops)).2.getD b false = true ↔ (b : Int) ∈ all ∧ Lp ways b b))
  | [], done, l, tops, he, hf, hfar, htl, htp => by
    rw [List.append_nil] at he
    subst he
    exact ⟨rfl, hf, htp⟩
  | x :: bs, done, l, tops, he, hf, hfar, htl, htp => by
    obtain ⟨y, rfl, hy⟩ := hnat x (by rw [he]; simp)
    have hyd : ¬ (y : Int) ∈ done := by
      intro hc
      rw [he] at hnd
      exact (List.nodup_append.1 hnd).2.2 _ hc _ (List.mem_cons_self ..) rfl
    have hod : ∀ t : Nat, (t : Int) ∈ done → ¬ Dm ways t y := by
      intro t htd hd
      have htn : t < ways.length := by
        obtain ⟨z, hz, hzn⟩ := hnat t (by rw [he]; exact List.mem_append_left _ htd)
        omega
      have hty : t ≠ y := fun e => by subst e; exact hyd htd
      have htq := hord done y bs he t htn hd hty
      rw [he] at hnd
      exact (List.nodup_append.1 hnd).2.2 _ htd _ (List.mem_cons_of_mem _ htq) rfl
    have hot : gi l.outer y = -1 := by
      rcases hf.ok.up y hy with e2 | ⟨t, htn, e2, hne, hl⟩
      · exact e2
      · exact absurd (lp_dm h hl) (hod t (hf.inP y t hy e2))
    have hms := mid_start h hf hfar hy hI hot hyd
    have hpl := pot_le ins l.outer ways.length (by omega)
    have hel : ((ins.take ways.length).map List.length).sum = edges ins := by rw [← hil, List.take_length]; rfl
    have hfl := List.length_filter_le (fun c => (ofL (outsOf ways)).over y c) (gr ins y)
    have hge := gr_edges (ins := ins) (b := y) (by omega)
    obtain ⟨f1, f2⟩ := find_fine h hf hy hyd hod hil hI K _ _ hms (by dsimp only; omega) hK2
    have hnx := found_next h hf hy hyd hod f2
    have hPe : (fun t : Nat => (t : Int) ∈ done ∨ t = y) = (fun t : Nat => (t : Int) ∈ done ++ [(y : Int)]) := by
      funext t
      rw [List.mem_append, List.mem_singleton]
      refine propext (or_congr Iff.rfl ?_)
      omega
    rw [hPe] at hnx
    have hfs := first_some h hy hI
    have := tops_fine hnd hnat hord hil hI hK hK2 bs (done ++ [(y : Int)]) (Lo.find (ofL (outsOf ways)) ins y K ((gr ins y).filter (fun c => (ofL (outsOf ways)).over y c)) l) (tops.set y (!((gr ins y).filter (fun c => (ofL (outsOf ways)).over y c)).isEmpty)) (by rw [he]; simp) hnx f2.far (by rw [List.length_set]; exact htl) (fun b hb => by
      rw [List.getD_eq_getElem?_getD]
      by_cases e : b = y
      · subst e
        rw [List.getElem?_set_self (by omega)]
        show _ = true ↔ _
        rw [Option.getD_some, hfs]
        simp
      · rw [List.getElem?_set_ne (by omega), ← List.getD_eq_getElem?_getD, htp b hb, List.mem_append, List.mem_singleton]
        have : ¬ ((b : Int) = (y : Int)) := by omega
        simp [this])
    rw [List.foldl_cons]
    refine ⟨?_, this.2⟩
    unfold findsOk
    rw [f1, this.1]; rfl
end
end Go.Proofs.Ytipongpgmbhpkaa

namespace Go.Proofs.Ytipongpgmbhpkaa
set_option linter.unusedVariables false

theorem cnt_both : ∀ s : List Bool, s.count false + s.count true = s.length
  | [] => rfl
  | a :: s => by
    have := cnt_both s
    rw [List.count_cons, List.count_cons, List.length_cons]
    cases a <;> simp <;> omega
theorem unseen_le {s s' : List Bool} (hl : s.length = s'.length) (h : ∀ v, Tt s v → Tt s' v) : unseen s' ≤ unseen s := by
  have h1 := cnt_le s s' hl h
  have h2 := cnt_both s
  have h3 := cnt_both s'
  unfold unseen
  omega
/-- Laid in such an order that what is over a block is laid behind it, or stands on the way. -/
def OrdS (ways : List (List Int)) (S : Nat → Prop) : List Int → Prop
  | [] => True
  | x :: q => (∃ y : Nat, x = (y : Int) ∧ ∀ t : Nat, t < ways.length → Dm ways t y → t ≠ y → S t ∨ (t : Int) ∈ q) ∧ x ∉ q ∧ OrdS ways S q
theorem OrdS.app {ways : List (List Int)} {S : Nat → Prop} : ∀ {a b : List Int}, OrdS ways S a → OrdS ways S b → (∀ x ∈ a, x ∉ b) → OrdS ways S (a ++ b)
  | [], _, _, h2, _ => h2
  | x :: a, b, h1, h2, hd => by
    obtain ⟨⟨y, e, k1⟩, k2, k3⟩ := h1
    refine ⟨⟨y, e, fun t ht hd hne => ?_⟩, fun hx => ?_, OrdS.app k3 h2 (fun x hx => hd x (List.mem_cons_of_mem _ hx))⟩
    · rcases k1 t ht hd hne with e | e
      · exact .inl e
      · exact .inr (List.mem_append_left _ e)
    · rcases List.mem_append.1 hx with hx | hx
      · exact k2 hx
      · exact hd x (List.mem_cons_self ..) hx
theorem OrdS.last {ways : List (List Int)} {S : Nat → Prop} {b : Nat} (hb : ∀ t : Nat, t < ways.length → Dm ways t b → t ≠ b → S t) : ∀ {a : List Int}, OrdS ways (fun t => S t ∨ t = b) a → (b : Int) ∉ a → OrdS ways S (a ++ [(b : Int)])
  | [], _, _ => ⟨⟨b, rfl, fun t ht hd hne => .inl (hb t ht hd hne)⟩, (by simp), trivial⟩
  | x :: a, h1, hn => by
    obtain ⟨⟨y, e, k1⟩, k2, k3⟩ := h1
    refine ⟨⟨y, e, fun t ht hd hne => ?_⟩, fun hx => ?_, OrdS.last hb k3 (fun hx => hn (List.mem_cons_of_mem _ hx))⟩
    · rcases k1 t ht hd hne with (e | e) | e
      · exact .inl e
      · exact .inr (List.mem_append_right _ (by rw [e]; exact List.mem_singleton.2 rfl))
      · exact .inr (List.mem_append_left _ e)
    · rcases List.mem_append.1 hx with hx | hx
      · exact k2 hx
      · rw [List.mem_singleton] at hx
        exact hn (by rw [← hx]; exact List.mem_cons_self ..)
/-- What a visit lays down. -/
structure Laid (ways : List (List Int)) (S : Nat → Prop) (s s' : List Bool) (new : List Int) : Prop where
  sl : s'.length = ways.length
  more : ∀ v, Tt s v → Tt s' v
  each : ∀ x ∈ new, ∃ y : Nat, x = (y : Int) ∧ y < ways.length ∧ ¬ Tt s y ∧ Tt s' y
  back : ∀ v : Nat, Tt s' v → Tt s v ∨ (v : Int) ∈ new
  ord : OrdS ways S new
  clo : ∀ v u : Nat, (v : Int) ∈ new → (u : Int) ∈ gr ways v → u < ways.length → Tt s' u
section
variable {ways : List (List Int)} (h : ways ≠ [])
include h
omit h in
theorem laid_app {S : Nat → Prop} {s s1 s2 : List Bool} {a b : List Int} (h1 : Laid ways S s s1 a) (h2 : Laid ways S s1 s2 b) : Laid ways S s s2 (a ++ b) := by
  refine ⟨h2.sl, fun v hv => h2.more v (h1.more v hv), fun x hx => ?_, fun v hv => ?_, h1.ord.app h2.ord (fun x hx hx2 => ?_), fun v u hv hu hul => ?_⟩
  · rcases List.mem_append.1 hx with hx | hx
    · obtain ⟨y, e, k1, k2, k3⟩ := h1.each x hx
      exact ⟨y, e, k1, k2, h2.more y k3⟩
    · obtain ⟨y, e, k1, k2, k3⟩ := h2.each x hx
      exact ⟨y, e, k1, fun hc => k2 (h1.more y hc), k3⟩
  · rcases h2.back v hv with e | e
    · rcases h1.back v e with e | e
      · exact .inl e
      · exact .inr (List.mem_append_left _ e)
    · exact .inr (List.mem_append_right _ e)
  · obtain ⟨y, rfl, _, _, k3⟩ := h1.each x hx
    obtain ⟨z, e, _, k4, _⟩ := h2.each _ hx2
    obtain rfl : y = z := by omega
    exact k4 k3
  · rcases List.mem_append.1 hv with hv | hv
    · exact h2.more u (h1.clo v u hv hu hul)
    · exact h2.clo v u hv hu hul
theorem dm_step {b t d : Nat} (hb : Al ways b) (ht : t < ways.length) (he : (t : Int) ∈ gr ways b) (hd : d < ways.length) (h1 : Dm ways d t) (hne : d ≠ t) : Dm ways d b := by
  have hbn := (rch_in hb).2.2
  refine (dm_iff h hd hbn).2 ⟨hb, fun hc => ?_⟩
  exact ((dm_iff h hd ht).1 h1).2 (.go b t hc hbn he ht (by omega))
theorem visit_laid : ∀ (k b : Nat) (S : Nat → Prop) (s : List Bool) (l : List Int), s.length = ways.length → ¬ Tt s b → Al ways b → unseen s ≤ k → (∀ t : Nat, t < ways.length → Dm ways t b → t ≠ b → S t) → (∀ t, S t → Tt s t) →
    ∃ new, (visitL ways k b (s, l)).2 = l ++ new ∧ Laid ways S s (visitL ways k b (s, l)).1 new ∧ (b : Int) ∈ new
  | 0, b, S, s, l, hs, hbs, hal, hk, hS, hSs => by
    have hbn := (rch_in hal).2.2
    have : s[b]? = some false := by
      unfold Tt at hbs
      rw [List.getD_eq_getElem?_getD, List.getElem?_eq_getElem (by omega)] at hbs
      rw [List.getElem?_eq_getElem (by omega)]
      cases hc : s[b] with
      | false => rfl
      | true => rw [hc] at hbs; exact absurd rfl hbs
    have := unseen_set this; omega
  | k + 1, b, S, s, l, hs, hbs, hal, hk, hS, hSs => by
    have hbn := (rch_in hal).2.2
    have hbf : s[b]? = some false := by
      unfold Tt at hbs
      rw [List.getD_eq_getElem?_getD, List.getElem?_eq_getElem (by omega)] at hbs
      rw [List.getElem?_eq_getElem (by omega)]
      cases hc : s[b] with
      | false => rfl
      | true => rw [hc] at hbs; exact absurd rfl hbs
    have hun := unseen_set hbf
    have hset : ∀ v, Tt (s.set b true) v ↔ v = b ∨ Tt s v := fun v => tt_set (by omega) v
    have kids : ∀ (row : List Int), (∀ t ∈ row, t ∈ gr ways b) → ∀ (s1 : List Bool) (l1 : List Int), s1.length = ways.length → (∀ t, (S t ∨ t = b) → Tt s1 t) → unseen s1 ≤ k →
        ∃ new, (row.foldl (visitStep ways.length (visitL ways k)) (s1, l1)).2 = l1 ++ new ∧ Laid ways (fun t => S t ∨ t = b) s1 (row.foldl (visitStep ways.length (visitL ways k)) (s1, l1)).1 new ∧ (∀ u : Nat, (u : Int) ∈ row → u < ways.length → Tt (row.foldl (visitStep ways.length (visitL ways k)) (s1, l1)).1 u) := by
      intro row
      induction row with
      | nil =>
        intro _ s1 l1 hs1 _ _
        exact ⟨[], (by simp), ⟨hs1, fun _ h => h, (by simp), fun _ h => .inl h, trivial, (by simp)⟩, (by simp)⟩
      | cons x row ih =>
        intro hrow s1 l1 hs1 hS1 hu1
        rw [List.foldl_cons]
        by_cases hc : 0 ≤ x ∧ x < (ways.length : Int) ∧ s1.getD x.toNat false = false
        · obtain ⟨x0, x1, x2⟩ := hc
          obtain ⟨t, rfl⟩ := Int.eq_ofNat_of_zero_le x0
          have hv : visitStep ways.length (visitL ways k) (s1, l1) (t : Int) = visitL ways k (t : Int) (s1, l1) := if_pos ⟨x0, x1, x2⟩
          have htn : t < ways.length := by omega
          have hte := hrow _ (List.mem_cons_self ..)
          have hts : ¬ Tt s1 t := fun hc => by unfold Tt at hc; rw [Int.toNat_natCast] at x2; rw [x2] at hc; cases hc
          obtain ⟨n1, e1, p1, m1⟩ := visit_laid k t (fun t => S t ∨ t = b) s1 l1 hs1 hts (al_step hal htn hte) hu1 (fun d hd h1 hne => by
            have := dm_step h hal htn hte hd h1 hne
            by_cases e : d = b
            · exact .inr e
            · exact .inl (hS d hd this e)) hS1
          rw [hv]
          generalize visitL ways k (t : Int) (s1, l1) = y at *
          obtain ⟨s2, l2⟩ := y
          dsimp only at e1 p1
          subst e1
          have hle := unseen_le (hs1.trans p1.sl.symm) p1.more
          obtain ⟨n2, e2, p2, q2⟩ := ih (fun t ht => hrow t (List.mem_cons_of_mem _ ht)) s2 (l1 ++ n1) p1.sl (fun t ht => p1.more t (hS1 t ht)) (by omega)
          refine ⟨n1 ++ n2, by rw [e2, List.append_assoc], laid_app p1 p2, fun u hu hul => ?_⟩
          rcases List.mem_cons.1 hu with e | hu
          · obtain rfl : u = t := by omega
            obtain ⟨z, ez, _, _, k3⟩ := p1.each _ m1
            obtain rfl : u = z := by omega
            exact p2.more u k3
          · exact q2 u hu hul
        · have hv : visitStep ways.length (visitL ways k) (s1, l1) x = (s1, l1) := if_neg hc
          rw [hv]
          obtain ⟨n2, e2, p2, q2⟩ := ih (fun t ht => hrow t (List.mem_cons_of_mem _ ht)) s1 l1 hs1 hS1 hu1
          refine ⟨n2, e2, p2, fun u hu hul => ?_⟩
          rcases List.mem_cons.1 hu with e | hu
          · subst e
            refine p2.more u ?_
            unfold Tt
            cases hx : s1.getD u false with
            | true => rfl
            | false => exact absurd ⟨by omega, by omega, by rw [Int.toNat_natCast]; exact hx⟩ hc
          · exact q2 u hu hul
    have hS1 : ∀ t, (S t ∨ t = b) → Tt (s.set b true) t := fun t ht => (hset t).2 (by
      rcases ht with e | e
      · exact .inr (hSs t e)
      · exact .inl e)
    obtain ⟨new, e, p, q⟩ := kids (gr ways b) (fun _ h => h) (s.set b true) l (by rw [List.length_set]; exact hs) hS1 (by omega)
    have hvis : visitL ways (k + 1) b (s, l) = (((gr ways b).foldl (visitStep ways.length (visitL ways k)) (s.set b true, l)).1, ((gr ways b).foldl (visitStep ways.length (visitL ways k)) (s.set b true, l)).2 ++ [(b : Int)]) := rfl
    rw [hvis]
    generalize (gr ways b).foldl (visitStep ways.length (visitL ways k)) (s.set b true, l) = y at *
    obtain ⟨s2, l2⟩ := y
    dsimp only at e p q ⊢
    subst e
    have hb2 : Tt s2 b := p.more b ((hset b).2 (.inl rfl))
    have hbnew : (b : Int) ∉ new := fun hc => by
      obtain ⟨z, ez, _, k2, _⟩ := p.each _ hc
      obtain rfl : b = z := by omega
      exact k2 ((hset b).2 (.inl rfl))
    refine ⟨new ++ [(b : Int)], by rw [List.append_assoc], ⟨p.sl, fun v hv => p.more v ((hset v).2 (.inr hv)), fun x hx => ?_, fun v hv => ?_, p.ord.last hS hbnew, fun v u hv hu hul => ?_⟩, by simp⟩
    · rcases List.mem_append.1 hx with hx | hx
      · obtain ⟨z, ez, k1, k2, k3⟩ := p.each _ hx
        exact ⟨z, ez, k1, fun hc => k2 ((hset z).2 (.inr hc)), k3⟩
      · rw [List.mem_singleton] at hx
        exact ⟨b, hx, hbn, hbs, hb2⟩
    · rcases p.back v hv with e | e
      · rcases (hset v).1 e with e | e
        · subst e; exact .inr (by simp)
        · exact .inl e
      · exact .inr (List.mem_append_left _ e)
    · rcases List.mem_append.1 hv with hv | hv
      · exact p.clo v u hv hu hul
      · rw [List.mem_singleton] at hv
        obtain rfl : v = b := by omega
        exact q u hu hul
/-- The order, turned round. -/
theorem order_laid : ∃ new : List Int, orderL (outsOf ways) = new.reverse ∧ new.Nodup ∧ (∀ x ∈ new, ∃ y : Nat, x = (y : Int) ∧ y < ways.length) ∧ (∀ b, Al ways b → (b : Int) ∈ new) ∧ ∀ p (y : Nat) q, new = p ++ (y : Int) :: q → ∀ t : Nat, t < ways.length → Dm ways t y → t ≠ y → (t : Int) ∈ q := by
  have hwl : 0 < ways.length := List.length_pos_iff.2 h
  have hal0 : Al ways 0 := .start (by omega) hwl
  have hnt : ∀ v, ¬ Tt (List.replicate ways.length false) v := fun v hv => by
    unfold Tt at hv
    rw [List.getD_eq_getElem?_getD, List.getElem?_replicate] at hv
    split at hv <;> simp at hv
  obtain ⟨new, e, p, q⟩ := visit_laid h ways.length 0 (fun _ => False) (List.replicate ways.length false) [] (by simp) (hnt 0) hal0 (by unfold unseen; simp) (fun t ht hd hne => by
    refine ((dm_iff h ht hwl).1 hd).2 (.start (by omega) hwl)) (fun _ h => h.elim)
  rw [List.nil_append] at e
  have hord : ∀ (l : List Int), OrdS ways (fun _ => False) l → l.Nodup ∧ ∀ p (y : Nat) q, l = p ++ (y : Int) :: q → ∀ t : Nat, t < ways.length → Dm ways t y → t ≠ y → (t : Int) ∈ q := by
    intro l
    induction l with
    | nil => intro _; exact ⟨List.nodup_nil, fun p y q e => by simp at e⟩
    | cons x l ih =>
      rintro ⟨⟨z, hz, k1⟩, k2, k3⟩
      obtain ⟨i1, i2⟩ := ih k3
      refine ⟨List.nodup_cons.2 ⟨k2, i1⟩, fun p y q e t ht hd hne => ?_⟩
      cases p with
      | nil =>
        rw [List.nil_append] at e
        obtain ⟨e1, e2⟩ := List.cons.inj e
        obtain rfl : z = y := by omega
        subst e2
        exact (k1 t ht hd hne).resolve_left id
      | cons w p =>
        rw [List.cons_append] at e
        exact i2 p y q (List.cons.inj e).2 t ht hd hne
  obtain ⟨o1, o2⟩ := hord new p.ord
  refine ⟨new, by rw [order_visit h]; exact congrArg List.reverse e, o1, fun x hx => ?_, fun b hb => ?_, o2⟩
  · obtain ⟨y, ey, k1, _⟩ := p.each x hx
    exact ⟨y, ey, k1⟩
  · unfold Al at hb
    induction hb with
    | start => exact q
    | go b t _ k1 k2 k3 k4 ih =>
      rcases p.back t (p.clo b t ih k2 k3) with e | e
      · exact absurd e (hnt t)
      · exact e
end
end Go.Proofs.Ytipongpgmbhpkaa

namespace Go.Proofs.Ytipongpgmbhpkaa
open Go.ChangeShapes Go.WideShapes Go.ChangeAt Go.RowKit
set_option linter.unusedVariables false

theorem gr_put {l : List (List Int)} {t : Nat} (ht : t < l.length) (x : Int) (b : Nat) : gr (l.set t (gr l t ++ [x])) b = if b = t then gr l t ++ [x] else gr l b := by
  unfold gr
  rw [Int.toNat_natCast, Int.toNat_natCast, List.getD_eq_getElem?_getD, List.getD_eq_getElem?_getD, List.getD_eq_getElem?_getD]
  by_cases e : b = t
  · subst e
    rw [if_pos rfl, List.getElem?_set_self ht]; rfl
  · rw [if_neg e, List.getElem?_set_ne (fun h => e h.symm)]
theorem way_ins {n : Nat} (src : Nat) : ∀ (r : List Int) (g : Gr), g.outs.length = n → g.ins.length = n → (r.foldl (Gr.way src) g).outs.length = n ∧ (r.foldl (Gr.way src) g).ins.length = n ∧ ∀ b : Nat, b < n → ∀ x, x ∈ gr (r.foldl (Gr.way src) g).ins b ↔ x ∈ gr g.ins b ∨ (x = (src : Int) ∧ (b : Int) ∈ r)
  | [], g, h1, h2 => ⟨h1, h2, fun b hb x => by simp⟩
  | t :: r, g, h1, h2 => by
    rw [List.foldl_cons]
    by_cases hc : 0 ≤ t ∧ t < (g.outs.length : Int)
    · obtain ⟨t', rfl⟩ := Int.eq_ofNat_of_zero_le hc.1
      have hw : Gr.way src g (t' : Int) = ⟨g.outs.set src (gr g.outs src ++ [(t' : Int)]), g.ins.set t' (gr g.ins t' ++ [(src : Int)])⟩ := if_pos hc
      rw [hw]
      obtain ⟨i1, i2, i3⟩ := way_ins (n := n) src r ⟨g.outs.set src (gr g.outs src ++ [(t' : Int)]), g.ins.set t' (gr g.ins t' ++ [(src : Int)])⟩ (by dsimp only; rw [List.length_set]; exact h1) (by dsimp only; rw [List.length_set]; exact h2)
      refine ⟨i1, i2, fun b hb x => ?_⟩
      rw [i3 b hb x]
      dsimp only
      rw [gr_put (by omega), List.mem_cons]
      by_cases e : b = t'
      · subst e
        rw [if_pos rfl, List.mem_append, List.mem_singleton]
        constructor
        · rintro ((e | e) | ⟨e1, e2⟩)
          · exact .inl e
          · exact .inr ⟨e, .inl rfl⟩
          · exact .inr ⟨e1, .inr e2⟩
        · rintro (e | ⟨e1, e2⟩)
          · exact .inl (.inl e)
          · exact .inl (.inr e1)
      · rw [if_neg e]
        have : ¬ ((b : Int) = (t' : Int)) := by omega
        simp [this]
    · have hw : Gr.way src g t = g := if_neg hc
      rw [hw]
      obtain ⟨i1, i2, i3⟩ := way_ins (n := n) src r g h1 h2
      refine ⟨i1, i2, fun b hb x => ?_⟩
      rw [i3 b hb x, List.mem_cons]
      have : ¬ ((b : Int) = t) := fun e => hc ⟨by omega, by omega⟩
      simp [this]
theorem graph_ins (ways : List (List Int)) : (graphL ways).ins.length = ways.length ∧ ∀ b : Nat, b < ways.length → ∀ x, x ∈ gr (graphL ways).ins b ↔ ∃ p : Nat, x = (p : Int) ∧ p < ways.length ∧ (b : Int) ∈ gr ways p := by
  have key : ∀ (l : List (List Int × Nat)) (g : Gr), g.outs.length = ways.length → g.ins.length = ways.length → (l.foldl grStep g).ins.length = ways.length ∧ ∀ b : Nat, b < ways.length → ∀ x, x ∈ gr (l.foldl grStep g).ins b ↔ x ∈ gr g.ins b ∨ ∃ r ∈ l, x = (r.2 : Int) ∧ (b : Int) ∈ r.1 := by
    intro l
    induction l with
    | nil => intro g _ h2; exact ⟨h2, fun b hb x => by simp⟩
    | cons r l ih =>
      intro g h1 h2
      obtain ⟨i1, i2, i3⟩ := way_ins (n := ways.length) r.2 r.1 g h1 h2
      obtain ⟨j1, j2⟩ := ih (grStep g r) i1 i2
      rw [List.foldl_cons]
      refine ⟨j1, fun b hb x => ?_⟩
      rw [j2 b hb x]
      unfold grStep
      rw [i3 b hb x]
      constructor
      · rintro ((e | e) | ⟨q, hq, e⟩)
        · exact .inl e
        · exact .inr ⟨r, List.mem_cons_self .., e⟩
        · exact .inr ⟨q, List.mem_cons_of_mem _ hq, e⟩
      · rintro (e | ⟨q, hq, e⟩)
        · exact .inl (.inl e)
        · rcases List.mem_cons.1 hq with rfl | hq
          · exact .inl (.inr e)
          · exact .inr ⟨q, hq, e⟩
  obtain ⟨k1, k2⟩ := key ways.zipIdx (grZero ways) (by unfold grZero; simp) (by unfold grZero; simp)
  have e : graphL ways = ways.zipIdx.foldl grStep (grZero ways) := rfl
  rw [e]
  refine ⟨k1, fun b hb x => ?_⟩
  rw [k2 b hb x]
  have h0 : ¬ x ∈ gr (grZero ways).ins b := by
    unfold grZero gr
    rw [Int.toNat_natCast, List.getD_eq_getElem?_getD, List.getElem?_map, List.getElem?_eq_getElem hb]
    simp
  constructor
  · rintro (e | ⟨r, hr, e1, e2⟩)
    · exact absurd e h0
    · obtain ⟨h1, h2⟩ := idx_rows ways r hr
      exact ⟨r.2, e1, h1, by rw [← h2]; exact e2⟩
  · rintro ⟨p, e1, hp, e2⟩
    exact .inr ⟨(gr ways p, p), List.mem_of_getElem? (zip_idx (gr_of hp)), e1, e2⟩
theorem graph_ok (ways : List (List Int)) : (graphL ways).ok ways.length (edges ways) := by
  have fold1 : ∀ (r : List Int) (src : Nat) (g : Gr) (M : Nat), g.ok ways.length M → (r.foldl (Gr.way src) g).ok ways.length (M + r.length) := by
    intro r
    induction r with
    | nil => intro src g M h; exact h
    | cons t r ih =>
      intro src g M h
      rw [List.foldl_cons]
      have := ih src _ _ (h.way src t)
      rw [show M + (t :: r).length = M + 1 + r.length from by rw [List.length_cons]; omega]
      exact this
  have fold2 : ∀ (l : List (List Int × Nat)) (g : Gr) (M : Nat), g.ok ways.length M → (l.foldl grStep g).ok ways.length (M + (l.map (fun r => r.1.length)).sum) := by
    intro l
    induction l with
    | nil => intro g M h; exact h
    | cons r l ih =>
      intro g M h
      rw [List.foldl_cons, List.map_cons, List.sum_cons, ← Nat.add_assoc]
      exact ih _ _ (fold1 r.1 r.2 g M h)
  have h0 : (grZero ways).ok ways.length 0 := by
    unfold grZero
    refine ⟨by simp, by simp, ?_, ?_⟩ <;>
      (intro r hr; obtain ⟨_, _, rfl⟩ := List.mem_map.1 hr; exact Nat.le_refl _)
  have := fold2 ways.zipIdx _ _ h0
  have e : (ways.zipIdx.map (fun r => r.1.length)).sum = edges ways := by
    unfold edges
    rw [show (fun r : List Int × Nat => r.1.length) = List.length ∘ Prod.fst from rfl, ← List.map_map, List.zipIdx_map_fst]
  rw [e, Nat.zero_add] at this
  exact this
theorem edges_le {M : Nat} : ∀ (l : List (List Int)), (∀ r ∈ l, r.length ≤ M) → edges l ≤ l.length * M
  | [], _ => by simp [edges]
  | r :: l, h => by
    have := edges_le l (fun x hx => h x (List.mem_cons_of_mem _ hx))
    have h1 := h r (List.mem_cons_self ..)
    unfold edges at this ⊢
    rw [List.map_cons, List.sum_cons, List.length_cons, Nat.add_mul, Nat.one_mul]
    omega
/-- The loops, as the law tells them. -/
def lpB (ways : List (List Int)) (t b : Nat) : Bool :=
  (List.range ways.length).any (fun s => (gr ways s).contains (t : Int) && (ofL (outsOf ways)).over t s && (b == t || ((fromL ways ((0 : Nat) : Int) (-1)).getD b false && (fromL ways (b : Int) (t : Int)).getD s false)))
def cntL (ways : List (List Int)) (b : Nat) : Nat := (List.range ways.length).countP (fun t => lpB ways t b)
theorem lpB_iff {ways : List (List Int)} {t b : Nat} (ht : t < ways.length) (hb : b < ways.length) : lpB ways t b = true ↔ Lp ways t b := by
  have hwl : 0 < ways.length := by omega
  unfold lpB Lp
  rw [List.any_eq_true]
  constructor
  · rintro ⟨s, hs, e⟩
    rw [List.mem_range] at hs
    simp only [Bool.and_eq_true, Bool.or_eq_true, beq_iff_eq] at e
    obtain ⟨⟨e1, e2⟩, e3⟩ := e
    refine ⟨ht, hb, s, hs, by simpa using e1, e2, ?_⟩
    by_cases hbt : b = t
    · exact .inl hbt
    · obtain ⟨e4, e5⟩ := e3.resolve_left hbt
      exact .inr ⟨(from_iff hwl (by omega)).1 e4, (from_iff hb (by omega)).1 e5⟩
  · rintro ⟨_, _, s, hs, e1, e2, e3⟩
    refine ⟨s, List.mem_range.2 hs, ?_⟩
    simp only [Bool.and_eq_true, Bool.or_eq_true, beq_iff_eq]
    refine ⟨⟨by simpa using e1, e2⟩, ?_⟩
    by_cases hbt : b = t
    · exact .inl hbt
    · obtain ⟨e4, e5⟩ := e3.resolve_left hbt
      exact .inr ⟨(from_iff hwl (by omega)).2 e4, (from_iff hb (by omega)).2 e5⟩
theorem countP_one {p q : Nat → Bool} {b : Nat} : ∀ m, (∀ x, x < m → x ≠ b → p x = q x) → q b = false → (List.range m).countP p = (List.range m).countP q + if b < m ∧ p b = true then 1 else 0
  | 0, _, _ => by simp
  | m + 1, h, hq => by
    have ih := countP_one m (fun x hx hne => h x (by omega) hne) hq
    rw [List.range_succ, List.countP_append, List.countP_append, ih]
    by_cases e : b = m
    · subst e
      rw [if_neg (fun h => Nat.lt_irrefl _ h.1)]
      simp [hq, List.countP_cons]
    · have := h m (by omega) (fun e2 => e e2.symm)
      simp only [List.countP_cons, List.countP_nil, this]
      by_cases e2 : b < m
      · simp [e2, show b < m + 1 from by omega]; omega
      · simp [e2, show ¬ (b < m + 1) from by omega]
section
variable {ways : List (List Int)} (h : ways ≠ [])
include h
omit h in
theorem cnt_none {b : Nat} (hb : b < ways.length) (hn : ∀ t, t ≠ b → ¬ Lp ways t b) : cntL ways b = if lpB ways b b = true then 1 else 0 := by
  unfold cntL
  rw [countP_one (q := fun _ => false) (b := b) ways.length (fun x hx hne => by
    cases hc : lpB ways x b
    · rfl
    · exact absurd ((lpB_iff hx hb).1 hc) (hn x hne)) rfl]
  simp [hb]
theorem cnt_up {b t : Nat} (hb : b < ways.length) (ht : t < ways.length) (hne : t ≠ b) (hl : Lp ways t b) (hn : ∀ q, q ≠ b → Lp ways q b → q = t ∨ Lp ways q t) : cntL ways b = cntL ways t + if lpB ways b b = true then 1 else 0 := by
  unfold cntL
  rw [countP_one (q := fun x => lpB ways x t) (b := b) ways.length (fun x hx hxb => by
    refine bool_iff ?_
    rw [lpB_iff hx hb, lpB_iff hx ht]
    constructor
    · intro hc
      rcases hn x hxb hc with e | e
      · subst e; exact lp_top hl
      · exact e
    · exact fun hc => lp_trans h hl hc) (by
    cases hc : lpB ways b t
    · rfl
    · exact absurd (lp_anti h ((lpB_iff hb ht).1 hc) hl) (fun e => hne e.symm))]
  simp [hb]
theorem deps_fine {all outer : List Int} {tops : List Bool} (hnd : all.Nodup) (hnat : ∀ x ∈ all, ∃ y : Nat, x = (y : Int) ∧ y < ways.length) (hall : ∀ b, Al ways b → (b : Int) ∈ all) (hord : ∀ p (y : Nat) q, all = p ++ (y : Int) :: q → ∀ t : Nat, t < ways.length → Dm ways t y → t ≠ y → (t : Int) ∈ q)
    (hf : Found ways (fun t => (t : Int) ∈ all) outer) (htp : ∀ b : Nat, b < ways.length → (tops.getD b false = true ↔ (b : Int) ∈ all ∧ Lp ways b b)) :
    ∀ (q p : List Int), all = p ++ q → (q.foldr (fun x d => depStep outer tops d x) (List.replicate ways.length 0)).length = ways.length ∧ ∀ b : Nat, b < ways.length → ((b : Int) ∈ q → gi (q.foldr (fun x d => depStep outer tops d x) (List.replicate ways.length 0)) b = (cntL ways b : Int)) ∧ ((b : Int) ∉ q → gi (q.foldr (fun x d => depStep outer tops d x) (List.replicate ways.length 0)) b = 0)
  | [], p, he => ⟨by simp, fun b hb => ⟨(by simp), fun _ => by
      unfold gi
      rw [List.foldr_nil, Int.toNat_natCast, List.getD_eq_getElem?_getD, List.getElem?_replicate_of_lt hb]; rfl⟩⟩
  | x :: q, p, he => by
    obtain ⟨y, rfl, hy⟩ := hnat x (by rw [he]; simp)
    obtain ⟨i1, i2⟩ := deps_fine hnd hnat hall hord hf htp q (p ++ [(y : Int)]) (by rw [he]; simp)
    rw [List.foldr_cons]
    generalize q.foldr (fun x d => depStep outer tops d x) (List.replicate ways.length 0) = d at *
    have hyq : (y : Int) ∉ q := by
      rw [he] at hnd
      exact (List.nodup_cons.1 (List.nodup_append.1 hnd).2.1).1
    have hya : (y : Int) ∈ all := by rw [he]; simp
    have hset : ∀ (d : List Int) (v : Int) (x : Nat), d.length = ways.length → gi (d.set y v) x = if x = y then v else gi d x := fun d v x hd => set_at (by rw [hd]; exact hy) v x
    obtain ⟨d1, hd1⟩ : ∃ d1, d1 = if gi outer y ≠ -1 then d.set y (gi d (gi outer y)) else d := ⟨_, rfl⟩
    have hd1l : d1.length = ways.length := by rw [hd1]; split <;> simp [i1]
    have hd1o : ∀ x : Nat, x ≠ y → gi d1 x = gi d x := by
      intro x hx
      rw [hd1]
      split
      · rw [hset _ _ _ i1, if_neg hx]
      · rfl
    have hlb : lpB ways y y = true ↔ tops.getD y false = true := by
      rw [htp y hy, lpB_iff hy hy]
      exact ⟨fun c => ⟨hya, c⟩, fun c => c.2⟩
    have hd1y : (cntL ways y : Int) = gi d1 y + if tops.getD y false = true then 1 else 0 := by
      rcases hf.ok.up y hy with e | ⟨t, ht, e, hne, hl⟩
      · have h1 := cnt_none hy (fun t hne hc => hf.none y hy e t (hall t (dm_al h hc.1 hy (lp_dm h hc)).1) hne hc)
        rw [hd1, if_neg (fun c => c e), (i2 y hy).2 hyq, h1]
        by_cases c : tops.getD y false = true
        · rw [if_pos c, if_pos (hlb.2 c)]; rfl
        · rw [if_neg c, if_neg (fun c2 => c (hlb.1 c2))]; rfl
      · have htq := hord p y q he t ht (lp_dm h hl) hne
        have h1 := cnt_up h hy ht hne hl (fun r hr hlr => hf.near y t hy e r (hall r (dm_al h hlr.1 hy (lp_dm h hlr)).1) hr hlr)
        rw [hd1, if_pos (by omega), hset _ _ _ i1, if_pos rfl, e, (i2 t ht).1 htq, h1]
        by_cases c : tops.getD y false = true
        · rw [if_pos c, if_pos (hlb.2 c)]; rfl
        · rw [if_neg c, if_neg (fun c2 => c (hlb.1 c2))]; rfl
    have hstep : depStep outer tops d (y : Int) = if tops.getD y false = true then d1.set y (gi d1 y + 1) else d1 := by
      rw [hd1]; rfl
    rw [hstep]
    have hfin : ∀ x : Nat, gi (if tops.getD y false = true then d1.set y (gi d1 y + 1) else d1) x = if x = y then (cntL ways y : Int) else gi d x := by
      intro x
      by_cases c : tops.getD y false = true
      · rw [if_pos c, hset _ _ _ hd1l, hd1y, if_pos c]
        split
        · rfl
        · rename_i hx; exact hd1o x hx
      · rw [if_neg c, hd1y, if_neg c]
        split
        · rename_i hx; subst hx; omega
        · rename_i hx; exact hd1o x hx
    refine ⟨by split <;> simp [hd1l], fun b hb => ?_⟩
    rw [hfin b]
    by_cases e : b = y
    · subst e
      rw [if_pos rfl]
      exact ⟨fun _ => rfl, fun hc => absurd (List.mem_cons_self ..) hc⟩
    · rw [if_neg e]
      have hbx : (b : Int) ∈ (y : Int) :: q ↔ (b : Int) ∈ q := by
        rw [List.mem_cons]
        exact ⟨fun c => c.resolve_left (by omega), .inr⟩
      rw [hbx]
      exact i2 b hb
theorem depths_cnt (hK : 2 * edges (graphL ways).ins + (graphL ways).outs.length + 1 ≤ 1000000) : findsOk (ofL (graphL ways).outs) (graphL ways).ins (2 * edges (graphL ways).ins + (graphL ways).outs.length + 1) (orderL (graphL ways).outs).reverse ⟨List.replicate (graphL ways).outs.length (-1), upto (graphL ways).outs.length⟩ = true ∧
    depthsL (graphL ways) = (List.range ways.length).map (fun b => (cntL ways b : Int)) := by
  obtain ⟨all, e, hnd, hnat, hall, hord⟩ := order_laid h
  obtain ⟨hil, hI⟩ := graph_ins ways
  have hol : (graphL ways).outs.length = ways.length := by rw [graph_outs, outs_len]
  have hrep : ∀ b : Nat, b < ways.length → gi (List.replicate ways.length (-1)) b = -1 := fun b hb => by
    unfold gi
    rw [Int.toNat_natCast, List.getD_eq_getElem?_getD, List.getElem?_replicate_of_lt hb]; rfl
  have hok0 : OutOk2 ways (List.replicate ways.length (-1)) := ⟨by simp, fun b hb => .inl (hrep b hb)⟩
  have hf0 : Found ways (fun t => (t : Int) ∈ ([] : List Int)) (List.replicate ways.length (-1)) := ⟨hok0, (fun b t hb e => by rw [hrep b hb] at e; omega), (fun b hb e t ht => by cases ht), (fun b t hb e => by rw [hrep b hb] at e; omega)⟩
  have hfar0 : FarOk ways (List.replicate ways.length (-1)) (upto ways.length) := by
    refine ⟨by unfold upto; simp, fun b hb => ⟨b, hb, ?_, .refl, fun _ => hrep b hb⟩⟩
    unfold gi upto
    rw [Int.toNat_natCast, List.getD_eq_getElem?_getD, List.getElem?_map, List.getElem?_range hb]; rfl
  have key := tops_fine h hnd hnat hord hil hI (K := 2 * edges (graphL ways).ins + ways.length + 1) (by omega) (by rw [← hol]; exact hK) all [] ⟨List.replicate ways.length (-1), upto ways.length⟩ (List.replicate ways.length false) rfl hf0 hfar0 (by simp) (fun b hb => by
    rw [List.getD_eq_getElem?_getD, List.getElem?_replicate_of_lt hb]
    simp)
  have hrev : (orderL (graphL ways).outs).reverse = all := by rw [graph_outs, e, List.reverse_reverse]
  have hdep : depthsL (graphL ways) = all.foldr (fun x d => depStep (all.foldl (topStep (ofL (outsOf ways)) (graphL ways).ins (2 * edges (graphL ways).ins + ways.length + 1)) (⟨List.replicate ways.length (-1), upto ways.length⟩, List.replicate ways.length false)).1.outer (all.foldl (topStep (ofL (outsOf ways)) (graphL ways).ins (2 * edges (graphL ways).ins + ways.length + 1)) (⟨List.replicate ways.length (-1), upto ways.length⟩, List.replicate ways.length false)).2 d x) (List.replicate ways.length 0) := by
    rw [depthsL_eq, hrev, hol, graph_outs, e, List.foldl_reverse]
  rw [hrev, hol, graph_outs]
  refine ⟨key.1, ?_⟩
  rw [hdep]
  obtain ⟨k1, k2⟩ := deps_fine h hnd hnat hall hord key.2.1 key.2.2 all [] rfl
  generalize all.foldr (fun x d => depStep (all.foldl (topStep (ofL (outsOf ways)) (graphL ways).ins (2 * edges (graphL ways).ins + ways.length + 1)) (⟨List.replicate ways.length (-1), upto ways.length⟩, List.replicate ways.length false)).1.outer (all.foldl (topStep (ofL (outsOf ways)) (graphL ways).ins (2 * edges (graphL ways).ins + ways.length + 1)) (⟨List.replicate ways.length (-1), upto ways.length⟩, List.replicate ways.length false)).2 d x) (List.replicate ways.length 0) = d at *
  apply List.ext_getElem?
  intro b
  by_cases hb : b < ways.length
  · rw [List.getElem?_map, List.getElem?_range hb, gi_get (l := d) (v := b) (by omega)]
    show some _ = some _
    congr 1
    by_cases hba : (b : Int) ∈ all
    · exact (k2 b hb).1 hba
    · rw [(k2 b hb).2 hba]
      have hna : ¬ Al ways b := fun c => hba (hall b c)
      have : cntL ways b = 0 := by
        unfold cntL
        rw [List.countP_eq_zero]
        intro t ht hc
        rw [List.mem_range] at ht
        exact hna (dm_al h ht hb (lp_dm h ((lpB_iff ht hb).1 hc))).2
      show 0 = (cntL ways b : Int)
      rw [this]; rfl
  · rw [List.getElem?_eq_none (by omega), List.getElem?_eq_none (by simp; omega)]
end
end Go.Proofs.Ytipongpgmbhpkaa
