/-
  Dominators by semidominators, of any graph that is numbered by going as deep as can be first.
  dom: the walk numbers by going as deep as can be first.
  dom: the finder finds the least semidominator.
  dom: above is right.
  dom: Over is right: of every graph who is on each way to whom.
-/
import Derived.Test.YtipongpgmbhpkaaDomBF
import Derived.Test.YtipongpgmbhpkaaDomBI
namespace Go.Proofs.Ytipongpgmbhpkaa
set_option linter.unusedVariables false

/-- Above, in the tree of a parent function. -/
inductive Up (f : Nat → Nat) : Nat → Nat → Prop
  | refl (a : Nat) : Up f a a
  | down (a b : Nat) : 0 < b → Up f a (f b) → Up f a b
theorem Up.trans {f : Nat → Nat} {a b c : Nat} (h1 : Up f a b) (h2 : Up f b c) : Up f a c := by
  induction h2 with
  | refl => exact h1
  | down c h0 _ ih => exact .down _ _ h0 ih
theorem Up.le {f : Nat → Nat} {n : Nat} (hf : ∀ v, 0 < v → v < n → f v < v) {a b : Nat} (h : Up f a b) : b < n → a ≤ b := by
  induction h with
  | refl => exact fun _ => Nat.le_refl _
  | down b h0 _ ih =>
    intro hb
    have := hf b h0 hb
    have := ih (by omega)
    omega
theorem Up.lin {f : Nat → Nat} {n : Nat} (hf : ∀ v, 0 < v → v < n → f v < v) {a b c : Nat} (h1 : Up f a c) (h2 : Up f b c) (hc : c < n) (hab : a ≤ b) : Up f a b := by
  induction h2 with
  | refl => exact h1
  | down c h0 hb ih =>
    have hlt := hf c h0 hc
    cases h1 with
    | refl =>
      have := hb.le hf (by omega)
      omega
    | down _ _ h => exact ih h (by omega)
theorem Up.child {f : Nat → Nat} {p a : Nat} (h : Up f p a) : a ≠ p → ∃ c, 0 < c ∧ f c = p ∧ Up f c a := by
  induction h with
  | refl => exact fun e => absurd rfl e
  | down b h0 h1 ih =>
    intro hne
    by_cases e : f b = p
    · exact ⟨b, h0, e, .refl b⟩
    · obtain ⟨c, c0, c1, c2⟩ := ih e
      exact ⟨c, c0, c1, .down _ _ h0 c2⟩
/-- A graph that is numbered by going as deep as can be first. -/
structure DT (n : Nat) (par : Nat → Nat) (E : Nat → Nat → Prop) : Prop where
  lt : ∀ v, 0 < v → v < n → par v < v
  tree : ∀ v, 0 < v → v < n → E (par v) v
  inn : ∀ u v, E u v → u < n ∧ v < n
  pre : ∀ v, 0 < v → v < n → Up par (par v) (v - 1)
  dfs : ∀ u v, E u v → u < v → Up par u v
/-- A way all of whose places behind the first one are in S. -/
inductive PIn (E : Nat → Nat → Prop) (S : Nat → Prop) (a : Nat) : Nat → Prop
  | nil : PIn E S a a
  | go (b c : Nat) : PIn E S a b → E b c → S c → PIn E S a c
theorem PIn.mono {E : Nat → Nat → Prop} {S T : Nat → Prop} {a b : Nat} (h : PIn E S a b) (hST : ∀ c, S c → T c) : PIn E T a b := by
  induction h with
  | nil => exact .nil
  | go b c _ h1 h2 ih => exact .go b c ih h1 (hST c h2)
theorem PIn.cons {E : Nat → Nat → Prop} {S : Nat → Prop} {a b c : Nat} (h1 : E a b) (h2 : S b) (h : PIn E S b c) : PIn E S a c := by
  induction h with
  | nil => exact .go a b .nil h1 h2
  | go d e _ h3 h4 ih => exact .go d e ih h3 h4
theorem PIn.trans {E : Nat → Nat → Prop} {S : Nat → Prop} {a b c : Nat} (h1 : PIn E S a b) (h2 : PIn E S b c) : PIn E S a c := by
  induction h2 with
  | nil => exact h1
  | go d e _ h3 h4 ih => exact .go d e ih h3 h4
section
variable {n : Nat} {par : Nat → Nat} {E : Nat → Nat → Prop} (h : DT n par E)
include h
theorem DT.int : ∀ (k x : Nat), x ≤ k → x < n → ∀ u y, Up par u x → u ≤ y → y ≤ x → Up par u y
  | 0, x, hk, _, u, y, hu, h1, h2 => by
    obtain rfl : u = y := by omega
    exact .refl u
  | k + 1, x, hk, hx, u, y, hu, h1, h2 => by
    by_cases e : y = x
    · rw [e]; exact hu
    · have hx0 : 0 < x := by omega
      have hup : Up par u (par x) := by
        cases hu with
        | refl => omega
        | down _ _ h => exact h
      exact DT.int k (x - 1) (by omega) (by omega) u y (hup.trans (h.pre x hx0 hx)) h1 (by omega)
theorem DT.low {S : Nat → Prop} {z b : Nat} (hp : PIn E S z b) : z < n → ∃ v, (v = z ∨ S v) ∧ v ≤ z ∧ Up par v b := by
  induction hp with
  | nil => exact fun _ => ⟨z, .inl rfl, Nat.le_refl _, .refl z⟩
  | go b c hb h1 h2 ih =>
    intro hz
    obtain ⟨v, hv, hvz, hvb⟩ := ih hz
    obtain ⟨hbn, hcn⟩ := h.inn b c h1
    by_cases hbc : b < c
    · exact ⟨v, hv, hvz, hvb.trans (h.dfs b c h1 hbc)⟩
    · by_cases hvc : v ≤ c
      · exact ⟨v, hv, hvz, h.int b b (Nat.le_refl _) hbn v c hvb hvc (by omega)⟩
      · exact ⟨c, .inr h2, by omega, .refl c⟩
theorem DT.down {S : Nat → Prop} {a b : Nat} (hu : Up par a b) : b < n → (∀ y, Up par a y → Up par y b → y ≠ a → S y) → PIn E S a b := by
  induction hu with
  | refl => exact fun _ _ => .nil
  | down b h0 h1 ih =>
    intro hb hS
    have hlt := h.lt b h0 hb
    have hle := h1.le h.lt (by omega)
    exact .go (par b) b (ih (by omega) (fun y h2 h3 h4 => hS y h2 (.down _ _ h0 h3) h4)) (h.tree b h0 hb) (hS b (.down _ _ h0 h1) (.refl b) (by omega))
theorem DT.zero : ∀ (k b : Nat), b ≤ k → b < n → Up par 0 b
  | 0, b, hk, _ => by obtain rfl : b = 0 := (by omega); exact .refl 0
  | k + 1, b, hk, hb => by
    by_cases e : b = 0
    · subst e; exact .refl 0
    · have := h.lt b (by omega) hb
      exact .down _ _ (by omega) (DT.zero k (par b) (by omega) (by omega))
end
/-- A way from u to c by greater ones than c alone. -/
def HP (E : Nat → Nat → Prop) (c u : Nat) : Prop := ∃ b, PIn E (fun z => c < z) u b ∧ E b c
structure SD (n : Nat) (E : Nat → Nat → Prop) (sm : Nat → Nat) : Prop where
  path : ∀ w, 0 < w → w < n → HP E w (sm w)
  min : ∀ w u, 0 < w → w < n → HP E w u → sm w ≤ u
def Av (E : Nat → Nat → Prop) (k b : Nat) : Prop := 0 ≠ k ∧ PIn E (fun z => z ≠ k) 0 b
/-- What the method leaves: of each number the one of the least semidominator up to its own, and so on. -/
def Abv (n : Nat) (par sm ab : Nat → Nat) : Prop := ∀ w, 0 < w → w < n → ∃ u, Up par u w ∧ sm w < u ∧ (∀ y, Up par y w → sm w < y → sm u ≤ sm y) ∧ ((sm u = sm w ∧ ab w = sm w) ∨ (sm u < sm w ∧ ab w = ab u))
section
variable {n : Nat} {par sm ab : Nat → Nat} {E : Nat → Nat → Prop} (h : DT n par E) (hs : SD n E sm)
include h hs
theorem sm_anc {w : Nat} (h0 : 0 < w) (hw : w < n) : sm w ≤ par w ∧ sm w < w ∧ Up par (sm w) w := by
  have h1 := hs.min w (par w) h0 hw ⟨par w, .nil, h.tree w h0 hw⟩
  have h2 := h.lt w h0 hw
  obtain ⟨b, hb, hE⟩ := hs.path w h0 hw
  have hp : PIn E (fun z => w ≤ z) (sm w) w := .go b w (hb.mono (fun c hc => Nat.le_of_lt hc)) hE (Nat.le_refl _)
  obtain ⟨v, hv, hvz, hvu⟩ := h.low hp (by omega)
  rcases hv with rfl | hv
  · exact ⟨h1, by omega, hvu⟩
  · omega
omit hs in
theorem up_path {k s : Nat} (hs' : s < n) (hk : s < k) : Av E k s :=
  ⟨by omega, h.down (h.zero s s (Nat.le_refl _) hs') hs' (fun y h1 h2 h3 => by have := h2.le h.lt hs'; omega)⟩
omit h in
theorem high_to {k w : Nat} (h0 : 0 < w) (hw : w < n) (hk : k < w) (ha : Av E k (sm w)) : Av E k w := by
  obtain ⟨b, hb, hE⟩ := hs.path w h0 hw
  exact ⟨ha.1, .go b w (ha.2.trans (hb.mono (fun c hc => by omega))) hE (by omega)⟩
/-- What is on each way to w, but w, is no greater than its semidominator. -/
theorem dom_le {k w : Nat} (h0 : 0 < w) (hw : w < n) (hd : ¬ Av E k w) (hne : k ≠ w) : k ≤ sm w := by
  refine Nat.not_lt.1 (fun hk => hd ?_)
  by_cases hkw : w < k
  · exact up_path h hw hkw
  · have := (sm_anc h hs h0 hw).2.1
    exact high_to hs h0 hw (by omega) (up_path h (by omega) hk)
theorem ab_anc (hA : Abv n par sm ab) : ∀ (k w : Nat), w ≤ k → 0 < w → w < n → ab w ≤ sm w ∧ Up par (ab w) w
  | 0, w, hk, h0, _ => by omega
  | k + 1, w, hk, h0, hw => by
    obtain ⟨u, h1, h2, h3, h4⟩ := hA w h0 hw
    have hsa := sm_anc h hs h0 hw
    rcases h4 with ⟨e1, e2⟩ | ⟨e1, e2⟩
    · rw [e2]; exact ⟨Nat.le_refl _, hsa.2.2⟩
    · have huw : u < w := by
        have := h1.le h.lt hw
        rcases Nat.lt_or_ge u w with e | e
        · exact e
        · obtain rfl : u = w := by omega
          omega
      obtain ⟨p1, p2⟩ := ab_anc hA k u (by omega) (by omega) (by omega)
      rw [e2]
      exact ⟨by omega, p2.trans h1⟩
/-- What is on each way to w, but w, is on each way to what is above w. -/
theorem dom_up (hA : Abv n par sm ab) : ∀ (k w d : Nat), w ≤ k → 0 < w → w < n → ¬ Av E d w → d ≠ w → ¬ Av E d (ab w)
  | 0, w, d, hk, h0, _, _, _ => by omega
  | k + 1, w, d, hk, h0, hw, hd, hne => by
    obtain ⟨u, h1, h2, h3, h4⟩ := hA w h0 hw
    have hsa := sm_anc h hs h0 hw
    have hdl := dom_le h hs h0 hw hd hne
    rcases h4 with ⟨e1, e2⟩ | ⟨e1, e2⟩
    · rw [e2]
      exact fun ha => hd (high_to hs h0 hw (by omega) ha)
    · have huw : u < w := by
        have := h1.le h.lt hw
        rcases Nat.lt_or_ge u w with e | e
        · exact e
        · obtain rfl : u = w := by omega
          omega
      rw [e2]
      refine dom_up hA k u d (by omega) (by omega) (by omega) (fun ha => hd ⟨ha.1, ha.2.trans (h.down h1 hw (fun y p1 p2 p3 => ?_))⟩) (by omega)
      have := p1.le h.lt (by have := p2.le h.lt hw; omega)
      omega
omit hs in
/-- Where the semidominators up to d are no less than d, d is on each way. -/
theorem dom_of {d w : Nat} (hw : w < n) (hdw : Up par d w) (hne : d ≠ w) (hall : ∀ y, Up par y w → d < y → ∀ u, HP E y u → d ≤ u) : ¬ Av E d w := by
  rintro ⟨h0, hp⟩
  have hlt : d < w := by have := hdw.le h.lt hw; omega
  have key : ∀ b, PIn E (fun z => z ≠ d) 0 b → b < d ∨ (d < b ∧ ¬ Up par b w ∧ ∃ x, x < d ∧ PIn E (fun z => d < z ∧ ¬ Up par z w) x b) := by
    intro b hb
    induction hb with
    | nil => exact .inl (by omega)
    | go b c _ hE hc ih =>
      rcases Nat.lt_trichotomy c d with e | e | e
      · exact .inl e
      · exact absurd e hc
      · have hx : ∃ x, x < d ∧ PIn E (fun z => d < z ∧ ¬ Up par z w) x b := by
          rcases ih with hb | ⟨_, _, hx⟩
          · exact ⟨b, hb, .nil⟩
          · exact hx
        obtain ⟨x, hxd, hxp⟩ := hx
        refine .inr ⟨e, ?_, ?_⟩
        · intro hcw
          obtain ⟨hbn, hcn⟩ := h.inn b c hE
          -- all on this way are greater than c
          have hi : ∀ b, PIn E (fun z => d < z ∧ ¬ Up par z w) x b → PIn E (fun z => (d < z ∧ ¬ Up par z w) ∨ z = c) b c → PIn E (fun z => c < z) x b := by
            intro b hb
            induction hb with
            | nil => exact fun _ => .nil
            | go b' b hb' hE' hS ih' =>
              intro ht
              have hb1 := h.inn b' b hE'
              refine .go b' b (ih' (.cons hE' (.inl hS) ht)) hE' ?_
              refine Nat.not_le.1 (fun hle => ?_)
              obtain ⟨v, hv, hvb, hvc⟩ := h.low ht hb1.2
              have hbc : b ≠ c := fun e => hS.2 (e ▸ hcw)
              have hv2 : d < v ∧ ¬ Up par v w := by
                rcases hv with rfl | hv | rfl
                · exact hS
                · exact hv
                · omega
              exact hv2.2 (hvc.trans hcw)
          have := hall c hcw e x ⟨b, hi b hxp (.go b c .nil hE (.inr rfl)), hE⟩
          omega
        · by_cases hcw : Up par c w
          · exfalso
            obtain ⟨hbn, hcn⟩ := h.inn b c hE
            have hi : ∀ b, PIn E (fun z => d < z ∧ ¬ Up par z w) x b → PIn E (fun z => (d < z ∧ ¬ Up par z w) ∨ z = c) b c → PIn E (fun z => c < z) x b := by
              intro b hb
              induction hb with
              | nil => exact fun _ => .nil
              | go b' b hb' hE' hS ih' =>
                intro ht
                have hb1 := h.inn b' b hE'
                refine .go b' b (ih' (.cons hE' (.inl hS) ht)) hE' ?_
                refine Nat.not_le.1 (fun hle => ?_)
                obtain ⟨v, hv, hvb, hvc⟩ := h.low ht hb1.2
                have hbc : b ≠ c := fun e => hS.2 (e ▸ hcw)
                have hv2 : d < v ∧ ¬ Up par v w := by
                  rcases hv with rfl | hv | rfl
                  · exact hS
                  · exact hv
                  · omega
                exact hv2.2 (hvc.trans hcw)
            have := hall c hcw e x ⟨b, hi b hxp (.go b c .nil hE (.inr rfl)), hE⟩
            omega
          · exact ⟨x, hxd, .go b c hxp hE ⟨e, hcw⟩⟩
  rcases key w hp with e | ⟨_, e, _⟩
  · omega
  · exact e (.refl w)
theorem dom_ab (hA : Abv n par sm ab) : ∀ (k w : Nat), w ≤ k → 0 < w → w < n → ¬ Av E (ab w) w
  | 0, w, hk, h0, _ => by omega
  | k + 1, w, hk, h0, hw => by
    obtain ⟨u, h1, h2, h3, h4⟩ := hA w h0 hw
    have hsa := sm_anc h hs h0 hw
    obtain ⟨p1, p2⟩ := ab_anc h hs hA w w (Nat.le_refl _) h0 hw
    refine dom_of h hw p2 (by omega) (fun y hy hdy v hv => ?_)
    have hyw := hy.le h.lt hw
    have hmin := hs.min y v (by omega) (by omega) hv
    rcases h4 with ⟨e1, e2⟩ | ⟨e1, e2⟩
    · have := h3 y hy (by omega)
      omega
    · have huw : u < w := by
        have := h1.le h.lt hw
        rcases Nat.lt_or_ge u w with e | e
        · exact e
        · obtain rfl : u = w := by omega
          omega
      have hd := dom_ab hA k u (by omega) (by omega) (by omega)
      rw [← e2] at hd
      obtain ⟨q1, q2⟩ := ab_anc h hs hA u u (Nat.le_refl _) (by omega) (by omega)
      rw [← e2] at q1 q2
      by_cases hys : sm w < y
      · have := h3 y hy hys
        omega
      · -- y is above u
        have hyu : Up par y u := hy.lin h.lt h1 hw (by omega)
        refine Nat.le_trans (Nat.not_lt.1 (fun hlt => hd ?_)) hmin
        have hy0 : 0 < y := by omega
        have ha := high_to hs hy0 (by omega) hdy (up_path h (by omega) hlt)
        refine ⟨ha.1, ha.2.trans (h.down hyu (by omega) (fun z z1 z2 z3 => ?_))⟩
        have := z1.le h.lt (by have := z2.le h.lt (by omega); omega)
        omega
omit h hs in
theorem av_or {k d b : Nat} (hp : PIn E (fun z => z ≠ k) 0 b) : Av E d b ∨ PIn E (fun z => z ≠ k) 0 d := by
  induction hp with
  | nil =>
    by_cases e : 0 = d
    · subst e; exact .inr .nil
    · exact .inl ⟨e, .nil⟩
  | go b c hb hE hc ih =>
    rcases ih with ⟨e, ih⟩ | ih
    · by_cases e2 : c = d
      · subst e2; exact .inr (.go b c hb hE hc)
      · exact .inl ⟨e, .go b c ih hE e2⟩
    · exact .inr ih
/-- THE TREE IS RIGHT. -/
theorem up_iff (hA : Abv n par sm ab) : ∀ (m b k : Nat), b ≤ m → b < n → (Up ab k b ↔ ¬ Av E k b)
  | m, b, k, hm, hb => by
    constructor
    · intro hu
      induction hu with
      | refl =>
        rintro ⟨h0, hp⟩
        cases hp with
        | nil => exact h0 rfl
        | go _ _ _ _ hc => exact hc rfl
      | down b h0 h1 ih =>
        obtain ⟨p1, p2⟩ := ab_anc h hs hA b b (Nat.le_refl _) h0 hb
        have hsa := sm_anc h hs h0 hb
        rintro ⟨q0, hp⟩
        have hd := dom_ab h hs hA b b (Nat.le_refl _) h0 hb
        rcases av_or (d := ab b) hp with ha | ha
        · exact hd ha
        · exact ih (by omega) (by omega) ⟨q0, ha⟩
    · intro hd
      induction m generalizing b with
      | zero =>
        obtain rfl : b = 0 := by omega
        by_cases e : 0 = k
        · subst e; exact .refl 0
        · exact absurd ⟨e, .nil⟩ hd
      | succ m ih =>
        by_cases e : k = b
        · subst e; exact .refl k
        · by_cases e0 : b = 0
          · subst e0
            exact absurd ⟨fun e2 => e e2.symm, .nil⟩ hd
          · obtain ⟨p1, p2⟩ := ab_anc h hs hA b b (Nat.le_refl _) (by omega) hb
            have hsa := sm_anc h hs (by omega : 0 < b) hb
            exact .down _ _ (by omega) (ih (ab b) (by omega) (by omega) (dom_up h hs hA b b k (Nat.le_refl _) (by omega) hb hd e))
end
end Go.Proofs.Ytipongpgmbhpkaa

namespace Go.Proofs.Ytipongpgmbhpkaa
set_option linter.unusedVariables false

def pN (l : List Int) (v : Nat) : Nat := (gi l v).toNat
theorem Up.congr {f g : Nat → Nat} {m : Nat} (hf : ∀ v, 0 < v → v < m → f v < v) (hfg : ∀ v, v < m → f v = g v) {a b : Nat} (h : Up f a b) : b < m → Up g a b := by
  induction h with
  | refl => exact fun _ => .refl a
  | down b h0 _ ih =>
    intro hb
    refine .down _ _ h0 ?_
    rw [← hfg b hb]
    exact ih (by have := hf b h0 hb; omega)
theorem gr_mem {l : List (List Int)} {v : Nat} {x : Int} (h : x ∈ gr l v) : gr l v ∈ l ∧ v < l.length := by
  rcases Nat.lt_or_ge v l.length with hlt | hge
  · refine ⟨?_, hlt⟩
    unfold gr
    rw [Int.toNat_natCast, List.getD_eq_getElem?_getD, List.getElem?_eq_getElem hlt]
    exact List.getElem_mem _
  · unfold gr at h
    rw [Int.toNat_natCast, List.getD_eq_getElem?_getD, List.getElem?_eq_none hge] at h
    cases h
structure WD (outs : List (List Int)) (x : WS) : Prop where
  pre : ∀ v : Nat, 0 < v → v < x.s.par.length → Up (pN x.s.par) (pN x.s.par v) (v - 1)
  dfs : ∀ u v : Nat, v < x.s.par.length → (u : Int) ∈ gr x.s.ins v → u < v → Up (pN x.s.par) u v
  top : ∀ p u y : Nat, (p : Int) ∈ x.path → gi x.s.num p = (u : Int) → u ≤ y → y < x.s.par.length → Up (pN x.s.par) u y
  sorted : x.path.Pairwise (fun a b => gi x.s.num a ≤ gi x.s.num b)
  src : ∀ v : Nat, v < x.s.par.length → ∀ u ∈ gr x.s.ins v, ∃ b t : Nat, b < outs.length ∧ t < outs.length ∧ gi x.s.num b = u ∧ gi x.s.num t = (v : Int) ∧ (t : Int) ∈ gr outs b
  came : ∀ b : Nat, b < outs.length → ∀ k t v : Nat, (k : Int) < gi x.tried b → (gr outs b)[k]? = some (t : Int) → t < outs.length → gi x.s.num t = (v : Int) → gi x.s.num b ∈ gr x.s.ins v
  sur : ∀ v : Nat, v < x.s.par.length → ∃ b : Nat, b < outs.length ∧ gi x.s.num b = (v : Int)
theorem sorted_last {num : List Int} {l : List Int} (hp : l ≠ []) (h : l.Pairwise (fun a b => gi num a ≤ gi num b)) {a : Int} (ha : a ∈ l) : gi num a ≤ gi num (l.getLastD 0) := by
  have h4 : l.getLast hp = l.getLastD 0 := by rw [List.getLastD_eq_getLast?, List.getLast?_eq_some_getLast hp]; rfl
  have h3 : l = l.dropLast ++ [l.getLastD 0] := by rw [← h4]; exact (List.dropLast_concat_getLast hp).symm
  rw [h3] at h ha
  rw [List.pairwise_append] at h
  rcases List.mem_append.1 ha with h1 | h1
  · exact h.2.2 a h1 _ (List.mem_singleton.2 rfl)
  · rw [List.mem_singleton.1 h1]; exact Int.le_refl _
theorem WD.step {outs : List (List Int)} {x : WS} (h : x.ok outs) (h2 : x.ok2) (hf : WF outs x) (hd : WD outs x) (hp : x.path ≠ []) : WD outs (x.step outs) := by
  have hl := last_mem hp
  obtain ⟨b0, b1⟩ := h.pin _ hl
  have hpn := h2.pnum _ hl
  have hsl : ∀ a ∈ x.path, gi x.s.num a ≤ gi x.s.num (x.path.getLastD 0) := fun a ha => sorted_last hp hd.sorted ha
  obtain ⟨b, hb⟩ : ∃ b : Nat, x.path.getLastD 0 = b := ⟨(x.path.getLastD 0).toNat, by omega⟩
  rw [hb] at b0 b1 hpn hl hsl
  have hbl : b < outs.length := by omega
  have hbn : b < x.s.num.length := by rw [h.nl]; exact hbl
  have hbt : b < x.tried.length := by rw [h.tl]; exact hbl
  have hgr : ∃ row, outs[b]? = some row ∧ gr outs b = row := by
    refine ⟨outs[b], List.getElem?_eq_getElem hbl, ?_⟩
    unfold gr; rw [Int.toNat_natCast, List.getD_eq_getElem?_getD, List.getElem?_eq_getElem hbl]; rfl
  obtain ⟨row, hrow, hgr⟩ := hgr
  obtain ⟨t0, t1⟩ := h.tin b row hrow
  obtain ⟨k, hk⟩ : ∃ k : Nat, gi x.tried b = k := ⟨(gi x.tried b).toNat, by omega⟩
  have htr : ∀ c : Nat, gi (x.tried.set b ((k : Int) + 1)) c = if c = b then (k : Int) + 1 else gi x.tried c := by
    intro c
    rw [gi_set hbt _ _ (by omega)]
    by_cases e : c = b
    · rw [if_pos (by omega), if_pos e]
    · rw [if_neg (by omega), if_neg e]
  have hnumlt : ∀ c : Nat, c < outs.length → gi x.s.num c = -1 ∨ (0 ≤ gi x.s.num c ∧ gi x.s.num c < (x.s.par.length : Int)) := fun c hc => h.sok.1 _ (gi_mem (v := c) (by rw [h.nl]; exact hc))
  obtain ⟨u, hu⟩ : ∃ u : Nat, gi x.s.num b = u := ⟨(gi x.s.num b).toNat, by omega⟩
  have hul : u < x.s.par.length := by
    rcases hnumlt b hbl with e | e <;> omega
  have hinn : ∀ (v : Nat) (y : Int), y ∈ gr x.s.ins v → 0 ≤ y ∧ y < (x.s.par.length : Int) := fun v y hy => h2.wk.ins _ (gr_mem hy).1 y hy
  unfold WS.step
  dsimp only
  rw [hb, hgr, hk, Int.toNat_natCast]
  split
  · exact ⟨hd.pre, hd.dfs, fun p u y hp' => hd.top p u y (List.mem_of_mem_take hp'), hd.sorted.sublist (List.take_sublist _ _), hd.src, hd.came, hd.sur⟩
  · rename_i hne
    have hkr : k < row.length := by rw [hk] at t1; omega
    obtain ⟨tt, htt⟩ : ∃ tt, row[k]? = some tt := ⟨_, List.getElem?_eq_getElem hkr⟩
    have hgk : gi row (k : Int) = tt := by unfold gi; rw [Int.toNat_natCast, List.getD_eq_getElem?_getD, htt]; rfl
    rw [hgk]
    -- what was tried before
    have htried : ∀ c : Nat, ∀ j : Nat, (j : Int) < gi (x.tried.set b ((k : Int) + 1)) c → (j : Int) < gi x.tried c ∨ (c = b ∧ j = k) := by
      intro c j hj
      rw [htr] at hj
      by_cases e : c = b
      · rw [if_pos e] at hj
        subst e
        by_cases e2 : j = k
        · exact .inr ⟨rfl, e2⟩
        · left; rw [hk]; omega
      · rw [if_neg e] at hj
        exact .inl hj
    split
    · rename_i hto
      obtain ⟨t, rfl⟩ : ∃ t : Nat, tt = t := ⟨tt.toNat, by omega⟩
      rw [Int.toNat_natCast]
      have htl : t < outs.length := by omega
      have htn : t < x.s.num.length := by rw [h.nl]; exact htl
      have hgt : x.s.num.getD t 0 = gi x.s.num t := (gi_nat _ _).symm
      have hgb : x.s.num.getD b 0 = gi x.s.num b := (gi_nat _ _).symm
      have hedge : (t : Int) ∈ gr outs b := by rw [hgr]; exact List.mem_of_getElem? htt
      unfold Wk.goes
      by_cases hnew : gi x.s.num t = -1
      · have hisn : x.s.isNew t = true := by unfold Wk.isNew; rw [hgt]; exact decide_eq_true hnew
        have hbt' : b ≠ t := fun e => by subst e; omega
        rw [if_pos hisn, if_pos hisn]
        have hnum : ∀ c : Nat, gi (x.s.num.set t (x.s.par.length : Int)) c = if c = t then (x.s.par.length : Int) else gi x.s.num c := by
          intro c
          rw [gi_set htn _ _ (by omega)]
          by_cases e : c = t
          · rw [if_pos (by omega), if_pos e]
          · rw [if_neg (by omega), if_neg e]
        have hgb2 : (x.s.num.set t (x.s.par.length : Int)).getD b 0 = gi x.s.num b := by rw [← gi_nat, hnum, if_neg hbt']
        rw [hgb2, hgb]
        unfold Wk.meet Wk.way
        dsimp only
        have hil := h.sok.2
        obtain ⟨len, hlen⟩ : ∃ len, len = x.s.par.length := ⟨_, rfl⟩
        have hparat : ∀ v : Nat, v < len → pN x.s.par v = pN (x.s.par ++ [gi x.s.num b]) v := by
          intro v hv
          unfold pN
          rw [gi_app, if_neg (by omega)]
        have hparnew : pN (x.s.par ++ [gi x.s.num b]) len = u := by
          unfold pN
          rw [gi_app, if_pos hlen, hu, Int.toNat_natCast]
        have hplt : ∀ v, 0 < v → v < len → pN x.s.par v < v := by
          intro v h0 hv
          have := h2.wk.par v _ (gi_get (l := x.s.par) (v := v) (by omega)) h0
          unfold pN
          omega
        have hcong : ∀ a c : Nat, Up (pN x.s.par) a c → c < len → Up (pN (x.s.par ++ [gi x.s.num b])) a c := fun a c hac hc => hac.congr hplt hparat hc
        have hgrs : ∀ v : Nat, gr ((x.s.ins ++ [[]]).set x.s.par.length ((x.s.ins ++ [[]]).getD x.s.par.length [] ++ [gi x.s.num b])) v = if v = len then [gi x.s.num b] else gr x.s.ins v := by
          intro v
          rw [gr_set (by rw [List.length_append, List.length_singleton]; omega)]
          by_cases e : v = len
          · rw [if_pos (by omega), if_pos e]
            have : (x.s.ins ++ [[]]).getD x.s.par.length [] = gr (x.s.ins ++ [[]]) (x.s.par.length : Nat) := by unfold gr; rw [Int.toNat_natCast]
            rw [this, gr_append_new]
            have h5 : gr x.s.ins (x.s.par.length : Nat) = [] := by
              unfold gr
              rw [Int.toNat_natCast, List.getD_eq_getElem?_getD, List.getElem?_eq_none (by omega)]; rfl
            rw [h5]; rfl
          · rw [if_neg (by omega), if_neg e, gr_append_new]
        have hpathne : ∀ p : Nat, (p : Int) ∈ x.path → p ≠ t := fun p hpm e => by have := h2.pnum _ hpm; rw [e, hnew] at this; omega
        rw [← hlen] at hgrs hnum hul hnumlt hinn ⊢
        refine ⟨fun v v0 hv => ?_, fun a v hv ha hav => ?_, fun p w y hpm hw hwy hy => ?_, ?_, fun v hv a ha => ?_, fun c hc j t2 v hj hrt ht2 hv => ?_, fun v hv => ?_⟩
        · dsimp only at hv ⊢
          rw [List.length_append, List.length_singleton, ← hlen] at hv
          by_cases e : v = len
          · subst e
            rw [hparnew]
            exact hcong _ _ (hd.top b u (v - 1) hl hu (by omega) (by omega)) (by omega)
          · rw [← hparat v (by omega)]
            exact hcong _ _ (hd.pre v v0 (by omega)) (by omega)
        · dsimp only at hv ha ⊢
          rw [List.length_append, List.length_singleton, ← hlen] at hv
          rw [hgrs] at ha
          by_cases e : v = len
          · subst e
            rw [if_pos rfl] at ha
            have := List.mem_singleton.1 ha
            obtain rfl : a = u := by omega
            refine .down _ _ (by omega) ?_
            rw [hparnew]
            exact .refl a
          · rw [if_neg e] at ha
            exact hcong _ _ (hd.dfs a v (by omega) ha hav) (by omega)
        · dsimp only at hpm hw hy ⊢
          rw [List.length_append, List.length_singleton, ← hlen] at hy
          rw [hnum] at hw
          rcases List.mem_append.1 hpm with hpm | hpm
          · rw [if_neg (hpathne p hpm)] at hw
            by_cases e : y = len
            · subst e
              refine .down _ _ (by omega) ?_
              rw [hparnew]
              have := hsl _ hpm
              exact hcong _ _ (hd.top p w u hpm hw (by omega) (by omega)) (by omega)
            · exact hcong _ _ (hd.top p w y hpm hw hwy (by omega)) (by omega)
          · have e : p = t := by have := List.mem_singleton.1 hpm; omega
            rw [if_pos e] at hw
            obtain rfl : w = y := by omega
            exact .refl w
        · dsimp only
          rw [List.pairwise_append]
          refine ⟨?_, List.pairwise_singleton _ _, ?_⟩
          · refine hd.sorted.imp_of_mem ?_
            intro a c ha hc hac
            obtain ⟨a', rfl⟩ : ∃ a' : Nat, a = a' := ⟨a.toNat, by have := (h.pin a ha).1; omega⟩
            obtain ⟨c', rfl⟩ : ∃ c' : Nat, c = c' := ⟨c.toNat, by have := (h.pin c hc).1; omega⟩
            rw [hnum, hnum, if_neg (hpathne a' ha), if_neg (hpathne c' hc)]
            exact hac
          · intro a ha c hc
            rw [List.mem_singleton.1 hc]
            have hpa := h.pin a ha
            obtain ⟨a', rfl⟩ : ∃ a' : Nat, a = a' := ⟨a.toNat, by omega⟩
            rw [hnum, hnum, if_neg (hpathne a' ha), if_pos rfl]
            rcases hnumlt a' (by omega) with e | e <;> omega
        · dsimp only at hv ha ⊢
          rw [List.length_append, List.length_singleton, ← hlen] at hv
          rw [hgrs] at ha
          by_cases e : v = len
          · subst e
            rw [if_pos rfl] at ha
            exact ⟨b, t, hbl, htl, by rw [hnum, if_neg hbt']; exact (List.mem_singleton.1 ha).symm, by rw [hnum, if_pos rfl], hedge⟩
          · rw [if_neg e] at ha
            obtain ⟨b', t', hb', ht', e1, e2, e3⟩ := hd.src v (by omega) a ha
            have hr := hinn v a ha
            exact ⟨b', t', hb', ht', by rw [hnum, if_neg (fun e => by rw [e, hnew] at e1; omega)]; exact e1, by rw [hnum, if_neg (fun e => by rw [e, hnew] at e2; omega)]; exact e2, e3⟩
        · dsimp only at hj hv ⊢
          rw [hnum] at hv
          rw [hnum, hgrs]
          rcases htried c j hj with hj | ⟨rfl, rfl⟩
          · have ht2n := hf.went c hc j t2 hj hrt ht2
            have ht2t : t2 ≠ t := fun e => by rw [e] at ht2n; exact ht2n hnew
            rw [if_neg ht2t] at hv
            have hm := hd.came c hc j t2 v hj hrt ht2 hv
            have hr := hinn v _ hm
            rw [if_neg (show ¬ c = t from fun e => by rw [e, hnew] at hr; omega), if_neg (show ¬ v = len from by rcases hnumlt t2 ht2 with e | e <;> omega)]
            exact hm
          · rw [hgr, htt] at hrt
            obtain rfl : t = t2 := by have := Option.some.inj hrt; omega
            rw [if_pos rfl] at hv
            rw [if_neg hbt', if_pos (by omega)]
            exact List.mem_singleton.2 rfl
        · dsimp only at hv ⊢
          rw [List.length_append, List.length_singleton, ← hlen] at hv
          by_cases e : v = len
          · exact ⟨t, htl, by rw [hnum, if_pos rfl, e]⟩
          · obtain ⟨c, hc, hcv⟩ := hd.sur v (by omega)
            exact ⟨c, hc, by rw [hnum, if_neg (fun e => by rw [e, hnew] at hcv; omega)]; exact hcv⟩
      · have hisn : x.s.isNew t = false := by unfold Wk.isNew; rw [hgt]; exact decide_eq_false hnew
        rw [if_neg (by rw [hisn]; decide), if_neg (by rw [hisn]; decide), hgt, hgb]
        unfold Wk.way
        obtain ⟨m, hm⟩ : ∃ m : Nat, gi x.s.num t = m := ⟨(gi x.s.num t).toNat, by rcases hnumlt t htl with e | e <;> omega⟩
        have hml : m < x.s.par.length := by rcases hnumlt t htl with e | e <;> omega
        have hil := h.sok.2
        rw [hm, Int.toNat_natCast]
        have hgrs : ∀ v : Nat, gr (x.s.ins.set m (x.s.ins.getD m [] ++ [gi x.s.num b])) v = if v = m then gr x.s.ins m ++ [gi x.s.num b] else gr x.s.ins v := by
          intro v
          rw [gr_set (by omega)]
          have : x.s.ins.getD m [] = gr x.s.ins m := by unfold gr; rw [Int.toNat_natCast]
          rw [this]
        refine ⟨hd.pre, fun a v hv ha hav => ?_, hd.top, hd.sorted, fun v hv a ha => ?_, fun c hc j t2 v hj hrt ht2 hv => ?_, hd.sur⟩
        · dsimp only at hv ha ⊢
          rw [hgrs] at ha
          by_cases e : v = m
          · subst e
            rw [if_pos rfl] at ha
            rcases List.mem_append.1 ha with ha | ha
            · exact hd.dfs a v hv ha hav
            · have := List.mem_singleton.1 ha
              obtain rfl : a = u := by omega
              exact hd.top b a v hl hu (by omega) hv
          · rw [if_neg e] at ha
            exact hd.dfs a v hv ha hav
        · dsimp only at hv ha ⊢
          rw [hgrs] at ha
          by_cases e : v = m
          · subst e
            rw [if_pos rfl] at ha
            rcases List.mem_append.1 ha with ha | ha
            · exact hd.src v hv a ha
            · exact ⟨b, t, hbl, htl, (List.mem_singleton.1 ha).symm, hm, hedge⟩
          · rw [if_neg e] at ha
            exact hd.src v hv a ha
        · dsimp only at hj hv ⊢
          rw [hgrs]
          have hold : gi x.s.num c ∈ gr x.s.ins v → gi x.s.num c ∈ (if v = m then gr x.s.ins m ++ [gi x.s.num b] else gr x.s.ins v) := by
            intro hin
            split
            · rename_i e; rw [← e]; exact List.mem_append_left _ hin
            · exact hin
          rcases htried c j hj with hj | ⟨rfl, rfl⟩
          · exact hold (hd.came c hc j t2 v hj hrt ht2 hv)
          · rw [hgr, htt] at hrt
            obtain rfl : t = t2 := by have := Option.some.inj hrt; omega
            rw [if_pos (by omega)]
            exact List.mem_append_right _ (List.mem_singleton.2 rfl)
    · rename_i hto
      refine ⟨hd.pre, hd.dfs, hd.top, hd.sorted, hd.src, fun c hc j t2 v hj hrt ht2 hv => ?_, hd.sur⟩
      rcases htried c j hj with hj | ⟨rfl, rfl⟩
      · exact hd.came c hc j t2 v hj hrt ht2 hv
      · rw [hgr, htt] at hrt
        have := Option.some.inj hrt
        exact absurd ⟨by omega, by omega⟩ hto
theorem WD.run {outs : List (List Int)} : ∀ (k : Nat) (x : WS), x.ok outs → x.ok2 → WF outs x → WD outs x → WD outs (x.run outs k)
  | 0, x, _, _, _, h => h
  | k + 1, x, h, h2, hf, hd => by
    by_cases hp : x.path = []
    · rw [WS.run_nil hp]; exact hd
    · rw [WS.run_step hp]
      exact WD.run k _ (h.step hp).1 (h2.step h hp) (hf.step h h2 hp) (hd.step h h2 hf hp)
theorem WD.first {outs : List (List Int)} (h : outs ≠ []) : WD outs (WS.first outs.length) := by
  have hl : 0 < outs.length := List.length_pos_iff.2 h
  have hf := WF.first h
  have hpl : (WS.first outs.length).s.par.length = 1 := rfl
  have htr : ∀ c : Nat, gi (WS.first outs.length).tried c = 0 := by
    intro c
    show gi (List.replicate outs.length 0) c = 0
    unfold gi
    rw [Int.toNat_natCast, List.getD_eq_getElem?_getD, List.getElem?_replicate]
    split <;> rfl
  have hin : ∀ v : Nat, gr (WS.first outs.length).s.ins v = [] := by
    intro v
    show gr [[]] v = []
    unfold gr
    rw [Int.toNat_natCast, List.getD_eq_getElem?_getD]
    rcases v with _ | v <;> rfl
  refine ⟨fun v v0 hv => by omega, fun u v hv hu => (by rw [hin] at hu; cases hu), fun p u y hpm hu huy hy => ?_, List.pairwise_singleton _ _, fun v hv u hu => (by rw [hin] at hu; cases hu), fun b hb k t v hk => (by rw [htr] at hk; omega), fun v hv => ⟨0, hl, by rw [hf.root]; omega⟩⟩
  obtain rfl : y = 0 := by omega
  obtain rfl : u = 0 := by omega
  exact .refl 0
/-- The walk's end: what the numbers are. -/
theorem walked_dt {outs : List (List Int)} (h : outs ≠ []) :
    DT (walkedL outs).par.length (pN (walkedL outs).par) (fun u v => v < (walkedL outs).par.length ∧ (u : Int) ∈ gr (walkedL outs).ins v) ∧
    (∀ b t u v : Nat, b < outs.length → t < outs.length → gi (walkedL outs).num b = (u : Int) → gi (walkedL outs).num t = (v : Int) → (t : Int) ∈ gr outs b → (u : Int) ∈ gr (walkedL outs).ins v) ∧
    (∀ u v : Nat, v < (walkedL outs).par.length → (u : Int) ∈ gr (walkedL outs).ins v → ∃ b t : Nat, b < outs.length ∧ t < outs.length ∧ gi (walkedL outs).num b = (u : Int) ∧ gi (walkedL outs).num t = (v : Int) ∧ (t : Int) ∈ gr outs b) := by
  obtain ⟨h1, h2⟩ := WS.ok.first h
  have hl : 0 < outs.length := List.length_pos_iff.2 h
  have h3 := WS.ok.run (2 * edges outs + 2) _ h1 (by omega)
  have h4 := WF.run (2 * edges outs + 2) _ h1 (WS.ok2.first hl) (WF.first h)
  have h5 := WD.run (2 * edges outs + 2) _ h1 (WS.ok2.first hl) (WF.first h) (WD.first h)
  have hw := walked_end h
  have hrun : walkedL outs = ((WS.first outs.length).run outs (2 * edges outs + 2)).s := rfl
  generalize (WS.first outs.length).run outs (2 * edges outs + 2) = z at *
  rw [hrun] at hw ⊢
  have hpar : ∀ v : Nat, 0 < v → v < z.s.par.length → pN z.s.par v < v ∧ ((pN z.s.par v : Nat) : Int) = gi z.s.par v := by
    intro v v0 hv
    have := hw.fit.par v v0 hv
    unfold pN
    omega
  refine ⟨⟨fun v v0 hv => (hpar v v0 hv).1, fun v v0 hv => ⟨hv, by rw [(hpar v v0 hv).2]; exact (hw.fit.par v v0 hv).2.2⟩, fun u v hE => ⟨?_, hE.1⟩, h5.pre, fun u v hE huv => h5.dfs u v hE.1 hE.2 huv⟩, ?_, ?_⟩
  · have := hw.fit.ins v _ hE.2
    omega
  · intro b t u v hb ht hu hv hedge
    rcases h4.done b hb (by omega) with hm | hm
    · rw [h3.2] at hm; cases hm
    · obtain ⟨k, hk⟩ := List.mem_iff_getElem?.1 hedge
      rw [← hu]
      exact h5.came b hb k t v (by rw [hm]; have := (List.getElem?_eq_some_iff.1 hk).1; omega) hk ht hv
  · intro u v hv hu
    exact h5.src v hv _ hu
end Go.Proofs.Ytipongpgmbhpkaa

namespace Go.Proofs.Ytipongpgmbhpkaa
set_option linter.unusedVariables false

theorem least_of {p : Nat → Prop} : ∀ (k u : Nat), u ≤ k → p u → ∃ m, p m ∧ ∀ v, p v → m ≤ v
  | 0, u, hk, hu => ⟨u, hu, fun v _ => by omega⟩
  | k + 1, u, hk, hu => by
    by_cases hex : ∃ v, p v ∧ v < u
    · obtain ⟨v, hv, hlt⟩ := hex
      exact least_of k v (by omega) hv
    · exact ⟨u, hu, fun v hv => Nat.not_lt.1 (fun hlt => hex ⟨v, hv, hlt⟩)⟩
theorem exists_sd {n : Nat} {par : Nat → Nat} {E : Nat → Nat → Prop} (h : DT n par E) : ∃ sm : Nat → Nat, SD n E sm := by
  have hw : ∀ w, ∃ m, 0 < w → w < n → HP E w m ∧ ∀ v, HP E w v → m ≤ v := by
    intro w
    by_cases hc : 0 < w ∧ w < n
    · obtain ⟨m, hm⟩ := least_of (p := HP E w) (par w) (par w) (Nat.le_refl _) ⟨par w, .nil, h.tree w hc.1 hc.2⟩
      exact ⟨m, fun _ _ => hm⟩
    · exact ⟨0, fun a b => absurd ⟨a, b⟩ hc⟩
  refine ⟨fun w => Classical.choose (hw w), fun w h0 hwn => (Classical.choose_spec (hw w) h0 hwn).1, fun w u h0 hwn hu => (Classical.choose_spec (hw w) h0 hwn).2 u hu⟩

/-- The finder: those behind v hang on their parents, or on what these hang on. -/
structure FS (n : Nat) (P sm : Nat → Nat) (f : Fn) (v : Nat) : Prop where
  hl : f.hangs.length = n
  el : f.entry.length = n
  bl : f.best.length = n
  lo : ∀ x : Nat, x ≤ v → x < n → gi f.hangs x = -1 ∧ gi f.best x = (x : Int)
  ent : ∀ x : Nat, v < x → x < n → gi f.entry x = (sm x : Int)
  hi : ∀ x : Nat, v < x → x < n → ∃ r b : Nat, gi f.hangs x = (r : Int) ∧ gi f.best x = (b : Int) ∧ r < b ∧ r < x ∧ v < b ∧ Up P r x ∧ Up P b x ∧ ∀ y, Up P y x → r < y → v < y ∧ sm b ≤ sm y
section
variable {n : Nat} {P sm : Nat → Nat} {f : Fn} {v : Nat} (hP : ∀ v, 0 < v → v < n → P v < v)
include hP
theorem FS.short (h : FS n P sm f v) {u r1 : Nat} (hu : u < n) (hvu : v < u) (hr : gi f.hangs u = (r1 : Int)) (hvr : v < r1) :
    FS n P sm (f.short u) v ∧ gi (f.short u).hangs u = gi f.hangs r1 := by
  obtain ⟨r0, b1, e0, e1, l1, l2, l3, u1, u2, m1⟩ := h.hi u hvu hu
  obtain rfl : r0 = r1 := by omega
  obtain ⟨r2, b2, e2, e3, l4, l5, l6, u3, u4, m2⟩ := h.hi r0 hvr (by omega)
  have hb1 : b1 < n := by have := u2.le hP hu; omega
  have hb2 : b2 < n := by have := u4.le hP (by omega); omega
  have hs1 := h.ent b1 l3 hb1
  have hs2 := h.ent b2 l6 hb2
  have hhl : u < f.hangs.length := by rw [h.hl]; exact hu
  have hbl : u < f.best.length := by rw [h.bl]; exact hu
  obtain ⟨b, hbb, hbs⟩ : ∃ b : Nat, (b = b1 ∨ b = b2) ∧ (sm b ≤ sm b1 ∧ sm b ≤ sm b2) ∧ f.short u = ⟨f.hangs.set u (r2 : Int), f.entry, if b = b1 then f.best else f.best.set u (b2 : Int)⟩ := by
    unfold Fn.short
    dsimp only
    rw [e0, e1, e2, e3, hs1, hs2, Int.toNat_natCast]
    by_cases hc : (sm b2 : Int) < (sm b1 : Int)
    · refine ⟨b2, .inr rfl, by omega, ?_⟩
      rw [if_pos hc, if_neg (fun e => by rw [e] at hc; omega)]
    · refine ⟨b1, .inl rfl, by omega, ?_⟩
      rw [if_neg hc, if_pos rfl]
  rw [hbs.2]
  have hbest : ∀ x : Nat, gi (if b = b1 then f.best else f.best.set u (b2 : Int)) x = if x = u then (b : Int) else gi f.best x := by
    intro x
    by_cases e : b = b1
    · rw [if_pos e]
      split
      · rename_i ex; rw [ex, e1, e]
      · rfl
    · rw [if_neg e, set_at hbl]
      have : b = b2 := by rcases hbb with h | h; exact absurd h e; exact h
      rw [this]
  refine ⟨⟨by dsimp only; rw [List.length_set]; exact h.hl, h.el, by dsimp only; split; exact h.bl; rw [List.length_set]; exact h.bl, fun x hx hxn => ?_, h.ent, fun x hx hxn => ?_⟩, ?_⟩
  · dsimp only
    rw [set_at hhl, hbest, if_neg (by omega), if_neg (by omega)]
    exact h.lo x hx hxn
  · dsimp only
    rw [set_at hhl, hbest]
    by_cases ex : x = u
    · rw [if_pos ex, if_pos ex]
      subst ex
      refine ⟨r2, b, rfl, rfl, by rcases hbb with e | e <;> omega, by omega, by rcases hbb with e | e <;> omega, u3.trans u1, ?_, fun y hy hry => ?_⟩
      · rcases hbb with e | e
        · rw [e]; exact u2
        · rw [e]; exact u4.trans u1
      · by_cases hy1 : r0 < y
        · have := m1 y hy hy1
          omega
        · have := m2 y (hy.lin hP u1 hu (by omega)) hry
          omega
    · rw [if_neg ex, if_neg ex]
      exact h.hi x hx hxn
  · dsimp only
    rw [set_at hhl, if_pos rfl, e2]
omit hP in
theorem short_other {u : Nat} (hh : u < f.hangs.length) {x : Nat} (hx : x ≠ u) : gi (f.short u).hangs x = gi f.hangs x := by
  unfold Fn.short
  dsimp only
  rw [Int.toNat_natCast, set_at hh, if_neg hx]
omit hP in
theorem short_entry (f : Fn) (u : Int) : (f.short u).entry = f.entry := rfl
theorem FS.way : ∀ (k u : Nat) (f : Fn), u ≤ k → v < u → u < n → FS n P sm f v →
    FS n P sm (f.shorts (f.way k u).reverse) v ∧ (f.shorts (f.way k u).reverse).entry = f.entry ∧ (∃ r : Nat, gi (f.shorts (f.way k u).reverse).hangs u = (r : Int) ∧ r ≤ v) ∧ ∀ x : Nat, u < x → gi (f.shorts (f.way k u).reverse).hangs x = gi f.hangs x
  | 0, u, f, hk, hv, _, _ => by omega
  | k + 1, u, f, hk, hv, hu, h => by
    obtain ⟨r, b, e0, e1, l1, l2, l3, u1, u2, m1⟩ := h.hi u hv hu
    have hway : f.way (k + 1) u = if gi f.hangs (gi f.hangs u) = -1 then [] else (u : Int) :: f.way k (gi f.hangs u) := rfl
    rw [hway, e0]
    by_cases hr : gi f.hangs r = -1
    · rw [if_pos hr]
      refine ⟨h, rfl, ⟨r, e0, ?_⟩, fun _ _ => rfl⟩
      refine Nat.not_lt.1 (fun hlt => ?_)
      obtain ⟨r2, b2, e2, _⟩ := h.hi r hlt (by omega)
      omega
    · rw [if_neg hr]
      have hvr : v < r := Nat.not_le.1 (fun hle => hr (h.lo r hle (by omega)).1)
      obtain ⟨i1, i2, ⟨r', i3, i4⟩, i5⟩ := FS.way k r f (by omega) hvr (by omega) h
      rw [List.reverse_cons, shorts_snoc]
      generalize f.shorts (f.way k r).reverse = g at *
      have hgu : gi g.hangs u = (r : Int) := by rw [i5 u l2]; exact e0
      obtain ⟨j1, j2⟩ := i1.short hP hu hv hgu hvr
      refine ⟨j1, i2, ⟨r', by rw [j2]; exact i3, i4⟩, fun x hx => ?_⟩
      rw [short_other (by rw [i1.hl]; exact hu) (by omega)]
      exact i5 x (by omega)
theorem FS.least (h : FS n P sm f v) {u : Nat} (hu : u < n) :
    FS n P sm (f.least u).2 v ∧ (f.least u).2.entry = f.entry ∧ ((u ≤ v ∧ (f.least u).1 = (u : Int)) ∨ (v < u ∧ ∃ b : Nat, (f.least u).1 = (b : Int) ∧ v < b ∧ b < n ∧ Up P b u ∧ ∀ y, Up P y u → v < y → sm b ≤ sm y)) := by
  refine ⟨?_, least_entry _ _, ?_⟩
  · unfold Fn.least
    by_cases hr : gi f.hangs u = -1
    · rw [if_pos hr]; exact h
    · rw [if_neg hr]
      have hvu : v < u := Nat.not_le.1 (fun hle => hr (h.lo u hle hu).1)
      exact (FS.way hP _ u f (by rw [h.hl]; omega) hvu hu h).1
  · unfold Fn.least
    by_cases hr : gi f.hangs u = -1
    · rw [if_pos hr]
      left
      refine ⟨Nat.not_lt.1 (fun hlt => ?_), rfl⟩
      obtain ⟨r, b, e0, _⟩ := h.hi u hlt hu
      omega
    · rw [if_neg hr]
      right
      have hvu : v < u := Nat.not_le.1 (fun hle => hr (h.lo u hle hu).1)
      obtain ⟨i1, i2, ⟨r', i3, i4⟩, _⟩ := FS.way hP f.hangs.length u f (by rw [h.hl]; omega) hvu hu h
      dsimp only
      generalize f.shorts (f.way f.hangs.length u).reverse = g at *
      obtain ⟨r, b, e0, e1, l1, l2, l3, u1, u2, m1⟩ := i1.hi u hvu hu
      have hb := u2.le hP hu
      exact ⟨hvu, b, e1, l3, by omega, u2, fun y hy hvy => (m1 y hy (by omega)).2⟩
omit hP in
/-- What isn't behind v may have any entry. -/
theorem FS.entry (h : FS n P sm f v) {x : Nat} (hx : x ≤ v) (e : Int) : FS n P sm ⟨f.hangs, f.entry.set x e, f.best⟩ v := by
  refine ⟨h.hl, by dsimp only; rw [List.length_set]; exact h.el, h.bl, h.lo, fun y hy hyn => ?_, h.hi⟩
  dsimp only
  rw [set_at (by rw [h.el]; omega), if_neg (by omega)]
  exact h.ent y hy hyn
/-- v hangs on its parent. -/
theorem FS.hang (h : FS n P sm f v) (h0 : 0 < v) (hv : v < n) (he : gi f.entry v = (sm v : Int)) : FS n P sm ⟨f.hangs.set v (P v : Int), f.entry, f.best⟩ (v - 1) := by
  have hhl : v < f.hangs.length := by rw [h.hl]; exact hv
  have hpv := hP v h0 hv
  refine ⟨by dsimp only; rw [List.length_set]; exact h.hl, h.el, h.bl, fun x hx hxn => ?_, fun x hx hxn => ?_, fun x hx hxn => ?_⟩
  · dsimp only
    rw [set_at hhl, if_neg (by omega)]
    exact h.lo x (by omega) hxn
  · by_cases e : x = v
    · rw [e]; exact he
    · exact h.ent x (by omega) hxn
  · dsimp only
    rw [set_at hhl]
    by_cases e : x = v
    · subst e
      rw [if_pos rfl]
      refine ⟨P x, x, rfl, (h.lo x (Nat.le_refl _) hxn).2, hpv, hpv, by omega, .down _ _ h0 (.refl _), .refl x, fun y hy hpy => ?_⟩
      cases hy with
      | refl => exact ⟨by omega, Nat.le_refl _⟩
      | down _ _ hy' =>
        have := hy'.le hP (by omega)
        omega
    · rw [if_neg e]
      obtain ⟨r, b, e0, e1, l1, l2, l3, u1, u2, m1⟩ := h.hi x (by omega) hxn
      exact ⟨r, b, e0, e1, l1, l2, by omega, u1, u2, fun y hy hry => by have := m1 y hy hry; omega⟩
end
end Go.Proofs.Ytipongpgmbhpkaa

namespace Go.Proofs.Ytipongpgmbhpkaa
set_option linter.unusedVariables false

section
variable {n : Nat} {P sm : Nat → Nat} {E : Nat → Nat → Prop} (h : DT n P E) (hs : SD n E sm)
include h hs
theorem hp_cand {src v b : Nat} (hE : E src v) (hu : Up P b src) (hvb : v < b) : HP E v (sm b) := by
  obtain ⟨hsn, _⟩ := h.inn src v hE
  have hb := hu.le h.lt hsn
  obtain ⟨c, hc, hcb⟩ := hs.path b (by omega) (by omega)
  refine ⟨src, (PIn.go c b (hc.mono (fun z hz => by omega)) hcb hvb).trans (h.down hu hsn (fun y h1 h2 h3 => ?_)), hE⟩
  have := h1.le h.lt (by have := h2.le h.lt hsn; omega)
  omega
theorem cand_le {u v e : Nat} (huv : u < v) (hp : HP E v u) (h1 : ∀ src, E src v → src < v → e ≤ src) (h2 : ∀ src, E src v → v < src → ∀ y, Up P y src → v < y → e ≤ sm y) : e ≤ u := by
  obtain ⟨b, hb, hE⟩ := hp
  have key : ∀ b, PIn E (fun z => v < z) u b → b = u ∨ (v < b ∧ ∃ y, v < y ∧ Up P y b ∧ HP E y u ∧ PIn E (fun z => y ≤ z) u b) := by
    intro b hb
    induction hb with
    | nil => exact .inl rfl
    | go b c hb hE hc ih =>
      obtain ⟨hbn, hcn⟩ := h.inn b c hE
      refine .inr ⟨hc, ?_⟩
      rcases ih with rfl | ⟨hvb, y, hvy, hyb, hpy, hin⟩
      · exact ⟨c, hc, .refl c, ⟨b, .nil, hE⟩, .go b c .nil hE (Nat.le_refl _)⟩
      · have hyb' := hyb.le h.lt hbn
        by_cases hbc : b < c
        · exact ⟨y, hvy, hyb.trans (h.dfs b c hE hbc), hpy, .go b c hin hE (by omega)⟩
        · by_cases hyc : y ≤ c
          · exact ⟨y, hvy, h.int b b (Nat.le_refl _) hbn y c hyb hyc (by omega), hpy, .go b c hin hE hyc⟩
          · exact ⟨c, hc, .refl c, ⟨b, hin.mono (fun z hz => by omega), hE⟩, .go b c (hin.mono (fun z hz => by omega)) hE (Nat.le_refl _)⟩
  rcases key b hb with rfl | ⟨hvb, y, hvy, hyb, hpy, _⟩
  · exact h1 b hE huv
  · have hyn := hyb.le h.lt (h.inn b v hE).1
    have := hs.min y u (by omega) (by have := (h.inn b v hE).1; omega) hpy
    have := h2 b hE hvb y hyb hvy
    omega
end
/-- Ahead of v's ways. -/
structure CS (n : Nat) (P sm : Nat → Nat) (E : Nat → Nat → Prop) (a : Ab) (v e : Nat) : Prop where
  f : FS n P sm a.f v
  ev : gi a.f.entry v = (e : Int)
  low : ∀ x : Nat, x < v → gi a.f.entry x = (x : Int)
  val : e = v ∨ HP E v e
section
variable {n : Nat} {P sm : Nat → Nat} {E : Nat → Nat → Prop} (h : DT n P E) (hs : SD n E sm)
include h hs
theorem CS.came {a : Ab} {v e src : Nat} (hc : CS n P sm E a v e) (hv : v < n) (hE : E src v) :
    ∃ e', CS n P sm E (Ab.came v a src) v e' ∧ e' ≤ e ∧ (src < v → e' ≤ src) ∧ (v < src → ∀ y, Up P y src → v < y → e' ≤ sm y) ∧ (Ab.came v a src).out = a.out ∧ (Ab.came v a src).waiting = a.waiting := by
  obtain ⟨hsn, _⟩ := h.inn src v hE
  obtain ⟨i1, i2, i3⟩ := hc.f.least h.lt hsn
  have hcm : Ab.came v a src = ⟨⟨(a.f.least src).2.hangs, (a.f.least src).2.entry.set v (min (e : Int) (gi a.f.entry (a.f.least src).1)), (a.f.least src).2.best⟩, a.out, a.waiting⟩ := by
    unfold Ab.came
    dsimp only
    rw [Int.toNat_natCast, i2, hc.ev]
  rw [hcm]
  generalize a.f.least src = r at *
  have hel : v < r.2.entry.length := by rw [i1.el]; exact hv
  have mk : ∀ e' : Nat, min (e : Int) (gi a.f.entry r.1) = (e' : Int) → (e' = v ∨ HP E v e') → CS n P sm E ⟨⟨r.2.hangs, r.2.entry.set v (min (e : Int) (gi a.f.entry r.1)), r.2.best⟩, a.out, a.waiting⟩ v e' := by
    intro e' he hv'
    rw [he]
    refine ⟨i1.entry (Nat.le_refl _) _, ?_, fun x hx => ?_, hv'⟩
    · show gi (r.2.entry.set v (e' : Int)) v = _
      rw [set_at hel, if_pos rfl]
    · show gi (r.2.entry.set v (e' : Int)) x = _
      rw [set_at hel, if_neg (by omega), i2]
      exact hc.low x hx
  rcases i3 with ⟨j1, j2⟩ | ⟨j1, b, j2, j3, j4, j5, j6⟩
  · by_cases hsv : src = v
    · refine ⟨e, mk e ?_ hc.val, Nat.le_refl _, fun hlt => by omega, fun hlt => by omega, rfl, rfl⟩
      rw [j2, hsv, hc.ev]; omega
    · have hlo := hc.low src (by omega)
      by_cases hle : e ≤ src
      · exact ⟨e, mk e (by rw [j2, hlo]; omega) hc.val, Nat.le_refl _, fun _ => hle, fun hlt => by omega, rfl, rfl⟩
      · exact ⟨src, mk src (by rw [j2, hlo]; omega) (.inr ⟨src, .nil, hE⟩), by omega, fun _ => Nat.le_refl _, fun hlt => by omega, rfl, rfl⟩
  · have hsb := hc.f.ent b j3 j4
    by_cases hle : e ≤ sm b
    · exact ⟨e, mk e (by rw [j2, hsb]; omega) hc.val, Nat.le_refl _, fun hlt => by omega, fun _ y hy hvy => Nat.le_trans hle (j6 y hy hvy), rfl, rfl⟩
    · exact ⟨sm b, mk (sm b) (by rw [j2, hsb]; omega) (.inr (hp_cand h hs hE j5 j3)), by omega, fun hlt => by omega, fun _ y hy hvy => j6 y hy hvy, rfl, rfl⟩
theorem CS.comes {v : Nat} (hv : v < n) : ∀ (l : List Int) (a : Ab) (e : Nat), CS n P sm E a v e → (∀ z ∈ l, ∃ src : Nat, z = (src : Int) ∧ E src v) →
    ∃ e', CS n P sm E (l.foldl (Ab.came v) a) v e' ∧ e' ≤ e ∧ (∀ src : Nat, (src : Int) ∈ l → (src < v → e' ≤ src) ∧ (v < src → ∀ y, Up P y src → v < y → e' ≤ sm y)) ∧ (l.foldl (Ab.came v) a).out = a.out ∧ (l.foldl (Ab.came v) a).waiting = a.waiting
  | [], a, e, hc, _ => ⟨e, hc, Nat.le_refl _, fun _ hx => (by cases hx), rfl, rfl⟩
  | z :: l, a, e, hc, hl => by
    obtain ⟨src, rfl, hE⟩ := hl z (List.mem_cons_self ..)
    obtain ⟨e1, c1, c2, c3, c4, c5, c6⟩ := hc.came h hs hv hE
    obtain ⟨e2, d1, d2, d3, d4, d5⟩ := CS.comes hv l _ e1 c1 (fun x hx => hl x (List.mem_cons_of_mem _ hx))
    refine ⟨e2, d1, by omega, fun s hsl => ?_, d4.trans c5, d5.trans c6⟩
    rcases List.mem_cons.1 hsl with e0 | hsl
    · obtain rfl : s = src := by omega
      exact ⟨fun hlt => by have := c3 hlt; omega, fun hlt y hy hvy => by have := c4 hlt y hy hvy; omega⟩
    · exact d3 s hsl
end
def OutOk (P sm : Nat → Nat) (out : List Int) (u : Nat) : Prop :=
  ∃ b : Nat, Up P b u ∧ sm u < b ∧ (∀ y, Up P y u → sm u < y → sm b ≤ sm y) ∧ ((sm b = sm u ∧ gi out u = (sm u : Int)) ∨ (sm b < sm u ∧ gi out u = (b : Int)))
theorem OutOk.same {P sm : Nat → Nat} {out out' : List Int} {u : Nat} (h : OutOk P sm out u) (he : gi out' u = gi out u) : OutOk P sm out' u := by
  obtain ⟨b, h1, h2, h3, h4⟩ := h
  exact ⟨b, h1, h2, h3, by rw [he]; exact h4⟩
/-- Ahead of round v. -/
structure AS (n : Nat) (P sm : Nat → Nat) (a : Ab) (v : Nat) : Prop where
  f : FS n P sm a.f v
  low : ∀ x : Nat, x ≤ v → x < n → gi a.f.entry x = (x : Int)
  ol : a.out.length = n
  wl : a.waiting.length = n
  wait : ∀ e : Nat, ∀ z ∈ gr a.waiting e, ∃ u c : Nat, z = (u : Int) ∧ v < u ∧ u < n ∧ sm u = e ∧ 0 < c ∧ c ≤ v ∧ P c = e ∧ Up P c u
  done : ∀ u : Nat, v < u → u < n → OutOk P sm a.out u ∨ (u : Int) ∈ gr a.waiting (sm u)
section
variable {n : Nat} {P sm : Nat → Nat} {E : Nat → Nat → Prop} (h : DT n P E) (hs : SD n E sm)
include h hs
omit hs in
/-- One that waits is told. -/
theorem wait_one {a : Ab} {v u : Nat} (h0 : 0 < v) (hv : v < n) (hf : FS n P sm a.f (v - 1)) (ol : a.out.length = n) (hu : u < n) (hsu : sm u = P v) (hup : Up P v u) :
    FS n P sm (Ab.wait (P v) a u).f (v - 1) ∧ (Ab.wait (P v) a u).f.entry = a.f.entry ∧ (Ab.wait (P v) a u).out.length = n ∧ (Ab.wait (P v) a u).waiting = a.waiting ∧ OutOk P sm (Ab.wait (P v) a u).out u ∧ ∀ x : Nat, x ≠ u → gi (Ab.wait (P v) a u).out x = gi a.out x := by
  obtain ⟨i1, i2, i3⟩ := hf.least h.lt hu
  have hvu := hup.le h.lt hu
  have hpv := h.lt v h0 hv
  have hcm : Ab.wait (P v) a u = ⟨(a.f.least u).2, a.out.set u (if gi a.f.entry (a.f.least u).1 < gi a.f.entry u then (a.f.least u).1 else (P v : Int)), a.waiting⟩ := by
    unfold Ab.wait
    dsimp only
    rw [Int.toNat_natCast, i2]
  rw [hcm]
  generalize a.f.least u = r at *
  have hol : u < a.out.length := by rw [ol]; exact hu
  refine ⟨i1, i2, by dsimp only; rw [List.length_set]; exact ol, rfl, ?_, fun x hx => by dsimp only; rw [set_at hol, if_neg hx]⟩
  rcases i3 with ⟨j1, _⟩ | ⟨j1, b, j2, j3, j4, j5, j6⟩
  · omega
  · have hsb := hf.ent b j3 j4
    have hsuu := hf.ent u j1 hu
    have hall : ∀ y, Up P y u → sm u < y → v - 1 < y := by
      intro y hy hsy
      refine Nat.not_le.1 (fun hle => ?_)
      have hyv := hy.lin h.lt hup hu (by omega)
      cases hyv with
      | refl => omega
      | down _ _ hy' =>
        have := hy'.le h.lt (by omega)
        omega
    refine ⟨b, j5, by omega, fun y hy hsy => j6 y hy (hall y hy hsy), ?_⟩
    have hbu := j6 u (.refl u) j1
    dsimp only
    rw [set_at hol, if_pos rfl, j2, hsb, hsuu]
    by_cases hlt : sm b < sm u
    · right
      exact ⟨hlt, by rw [if_pos (by omega)]⟩
    · left
      exact ⟨by omega, by rw [if_neg (by omega), hsu]⟩
omit hs in
theorem wait_all {v : Nat} (h0 : 0 < v) (hv : v < n) : ∀ (l : List Int) (a : Ab), FS n P sm a.f (v - 1) → a.out.length = n → (∀ z ∈ l, ∃ u : Nat, z = (u : Int) ∧ u < n ∧ sm u = P v ∧ Up P v u) →
    FS n P sm (l.foldl (Ab.wait (P v)) a).f (v - 1) ∧ (l.foldl (Ab.wait (P v)) a).f.entry = a.f.entry ∧ (l.foldl (Ab.wait (P v)) a).out.length = n ∧ (l.foldl (Ab.wait (P v)) a).waiting = a.waiting ∧ ∀ u : Nat, (OutOk P sm a.out u ∨ (u : Int) ∈ l) → OutOk P sm (l.foldl (Ab.wait (P v)) a).out u
  | [], a, hf, ol, _ => ⟨hf, rfl, ol, rfl, fun u hu => by
      rcases hu with hu | hu
      · exact hu
      · cases hu⟩
  | z :: l, a, hf, ol, hl => by
    obtain ⟨u, rfl, hu, hsu, hup⟩ := hl z (List.mem_cons_self ..)
    obtain ⟨c1, c2, c3, c4, c5, c6⟩ := wait_one h h0 hv hf ol hu hsu hup
    obtain ⟨d1, d2, d3, d4, d5⟩ := wait_all h0 hv l _ c1 c3 (fun x hx => hl x (List.mem_cons_of_mem _ hx))
    refine ⟨d1, d2.trans c2, d3, d4.trans c4, fun x hx => d5 x ?_⟩
    by_cases e : x = u
    · rw [e]; exact .inl c5
    · rcases hx with hx | hx
      · exact .inl (hx.same (c6 x e))
      · rcases List.mem_cons.1 hx with hx | hx
        · exact absurd (by omega) e
        · exact .inr hx
theorem AS.round {w : Wk} (hwp : ∀ v : Nat, 0 < v → v < n → gi w.par v = (P v : Int)) (hwE : ∀ v : Nat, v < n → ∀ z ∈ gr w.ins v, ∃ src : Nat, z = (src : Int) ∧ E src v) (hwI : ∀ src v, E src v → (src : Int) ∈ gr w.ins v) {a : Ab} {v : Nat} (h0 : 0 < v) (hv : v < n) (ha : AS n P sm a v) :
    AS n P sm (Ab.round w a v) (v - 1) := by
  have hpv := h.lt v h0 hv
  have hsa := sm_anc h hs h0 hv
  obtain ⟨e, c1, _, c3, c4, c5⟩ := CS.comes h hs hv (gr w.ins v) a v ⟨ha.f, ha.low v (Nat.le_refl _) hv, fun x hx => ha.low x (by omega) (by omega), .inl rfl⟩ (hwE v hv)
  have hep := (c3 (P v) (hwI _ _ (h.tree v h0 hv))).1 hpv
  have hes : e = sm v := by
    have hle : e ≤ sm v := cand_le h hs hsa.2.1 (hs.path v h0 hv) (fun src hE hlt => (c3 src (hwI _ _ hE)).1 hlt) (fun src hE hlt => (c3 src (hwI _ _ hE)).2 hlt)
    have hge : sm v ≤ e := by
      rcases c1.val with e1 | e1
      · omega
      · exact hs.min v e h0 hv e1
    omega
  subst hes
  unfold Ab.round
  dsimp only
  rw [hwp v h0 hv]
  generalize (gr w.ins v).foldl (Ab.came v) a = a1 at *
  have hev := c1.ev
  rw [hev, Int.toNat_natCast, Int.toNat_natCast]
  have hwl : a1.waiting.length = n := by rw [c5]; exact ha.wl
  have hwt : ∀ x : Nat, gr (a1.waiting.set (sm v) (gr a1.waiting (sm v) ++ [(v : Int)])) x = if x = sm v then gr a1.waiting (sm v) ++ [(v : Int)] else gr a1.waiting x := fun x => gr_set (by omega) _ x
  have hwtl : (a1.waiting.set (sm v) (gr a1.waiting (sm v) ++ [(v : Int)])).length = n := by rw [List.length_set]; exact hwl
  -- who waits there
  have hwho : ∀ x : Nat, ∀ z ∈ gr (a1.waiting.set (sm v) (gr a1.waiting (sm v) ++ [(v : Int)])) x, ∃ u c : Nat, z = (u : Int) ∧ v ≤ u ∧ u < n ∧ sm u = x ∧ 0 < c ∧ c ≤ v ∧ P c = x ∧ Up P c u := by
    intro x z hz
    rw [hwt] at hz
    have hold : z ∈ gr a1.waiting x → ∃ u c : Nat, z = (u : Int) ∧ v ≤ u ∧ u < n ∧ sm u = x ∧ 0 < c ∧ c ≤ v ∧ P c = x ∧ Up P c u := by
      intro hz
      rw [c5] at hz
      obtain ⟨u, c, e1, e2, e3, e4, e5, e6, e7, e8⟩ := ha.wait x z hz
      exact ⟨u, c, e1, by omega, e3, e4, e5, e6, e7, e8⟩
    split at hz
    · rename_i ex
      subst ex
      rcases List.mem_append.1 hz with hz | hz
      · exact hold hz
      · obtain ⟨c, k1, k2, k3⟩ := hsa.2.2.child (by omega)
        exact ⟨v, c, List.mem_singleton.1 hz, Nat.le_refl _, hv, rfl, k1, k3.le h.lt hv, k2, k3⟩
    · exact hold hz
  generalize hwtd : a1.waiting.set (sm v) (gr a1.waiting (sm v) ++ [(v : Int)]) = wt at *
  have hfh := c1.f.hang h.lt h0 hv hev
  have hlw : ∀ z ∈ gr wt (P v), ∃ u : Nat, z = (u : Int) ∧ u < n ∧ sm u = P v ∧ Up P v u := by
    intro z hz
    obtain ⟨u, c, e1, e2, e3, e4, e5, e6, e7, e8⟩ := hwho (P v) z hz
    have hcv : c = v := by
      have h1 := h.int u u (Nat.le_refl _) e3 c v e8 e6 e2
      cases h1 with
      | refl => rfl
      | down _ _ h2 =>
        have := h2.le h.lt (by omega)
        have := h.lt c e5 (by omega)
        omega
    subst hcv
    exact ⟨u, e1, e3, e4, e8⟩
  obtain ⟨d1, d2, d3, d4, d5⟩ := wait_all h h0 hv (gr wt (P v)) ⟨⟨a1.f.hangs.set v (P v : Int), a1.f.entry, a1.f.best⟩, a1.out, wt⟩ hfh (by rw [c4]; exact ha.ol) hlw
  generalize (gr wt (P v)).foldl (Ab.wait (P v)) ⟨⟨a1.f.hangs.set v (P v : Int), a1.f.entry, a1.f.best⟩, a1.out, wt⟩ = a3 at *
  dsimp only at d2 d4 d5
  have hgw : ∀ x : Nat, gr (a3.waiting.set (P v) []) x = if x = P v then [] else gr wt x := fun x => by rw [gr_set (by rw [d4]; omega), d4]
  refine ⟨d1, fun x hx hxn => ?_, d3, by dsimp only; rw [List.length_set, d4]; exact hwtl, fun x z hz => ?_, fun u hu hun => ?_⟩
  · show gi a3.f.entry x = _
    rw [d2]
    exact c1.low x (by omega)
  · dsimp only at hz
    rw [hgw] at hz
    split at hz
    · cases hz
    · rename_i hne
      obtain ⟨u, c, e1, e2, e3, e4, e5, e6, e7, e8⟩ := hwho x z hz
      exact ⟨u, c, e1, by omega, e3, e4, e5, by have : c ≠ v := (fun e => hne (by rw [← e7, e])); omega, e7, e8⟩
  · show OutOk P sm a3.out u ∨ (u : Int) ∈ gr (a3.waiting.set (P v) []) (sm u)
    rw [hgw]
    have hin : OutOk P sm a1.out u ∨ (u : Int) ∈ gr wt (sm u) := by
      by_cases e : u = v
      · right
        rw [e, hwt, if_pos rfl]
        exact List.mem_append_right _ (List.mem_singleton.2 rfl)
      · rcases ha.done u (by omega) hun with hd | hd
        · left; rw [c4]; exact hd
        · right
          rw [hwt]
          rw [← c5] at hd
          split
          · rename_i ee; rw [← ee]; exact List.mem_append_left _ hd
          · exact hd
    rcases hin with hin | hin
    · exact .inl (d5 u (.inl hin))
    · by_cases e : sm u = P v
      · left
        rw [e] at hin
        exact d5 u (.inr hin)
      · right
        rw [if_neg e]
        exact hin
theorem AS.rounds {w : Wk} (hwp : ∀ v : Nat, 0 < v → v < n → gi w.par v = (P v : Int)) (hwE : ∀ v : Nat, v < n → ∀ z ∈ gr w.ins v, ∃ src : Nat, z = (src : Int) ∧ E src v) (hwI : ∀ src v, E src v → (src : Int) ∈ gr w.ins v) :
    ∀ (k : Nat) (a : Ab), k + 1 ≤ n → AS n P sm a k → AS n P sm ((down (k + 1)).foldl (Ab.round w) a) 0
  | 0, a, _, ha => ha
  | k + 1, a, hk, ha => by
    rw [down_succ, List.foldl_cons]
    exact AS.rounds hwp hwE hwI k _ (by omega) (ha.round h hs hwp hwE hwI (by omega) (by omega))
end
theorem last_abv {n : Nat} {P sm : Nat → Nat} {E : Nat → Nat → Prop} (h : DT n P E) {f : Fn} (hf : ∀ x : Nat, 0 < x → x < n → gi f.entry x = (sm x : Int)) {out : List Int} (ol : out.length = n) (hout : ∀ u, 0 < u → u < n → OutOk P sm out u) :
    ∀ k, k ≤ n → ((((List.range k).drop 1).foldl (Ab.last f) out).length = n ∧ (∀ x : Nat, k ≤ x → gi (((List.range k).drop 1).foldl (Ab.last f) out) x = gi out x) ∧ ∀ w, 0 < w → w < k → ∃ u, Up P u w ∧ sm w < u ∧ (∀ y, Up P y w → sm w < y → sm u ≤ sm y) ∧ ((sm u = sm w ∧ pN (((List.range k).drop 1).foldl (Ab.last f) out) w = sm w) ∨ (sm u < sm w ∧ pN (((List.range k).drop 1).foldl (Ab.last f) out) w = pN (((List.range k).drop 1).foldl (Ab.last f) out) u)))
  | 0, _ => ⟨ol, fun _ _ => rfl, fun w _ hw => by omega⟩
  | 1, _ => ⟨ol, fun _ _ => rfl, fun w h0 hw => by omega⟩
  | k + 2, hk => by
    obtain ⟨i1, i2, i3⟩ := last_abv h hf ol hout (k + 1) (by omega)
    rw [show k + 2 = (k + 1) + 1 by omega, List.range_succ, List.drop_append_of_le_length (by simp), List.foldl_append]
    generalize ((List.range (k + 1)).drop 1).foldl (Ab.last f) out = o at *
    rw [List.foldl_cons, List.foldl_nil]
    have hko : k + 1 < o.length := by omega
    obtain ⟨b, h1, h2, h3, h4⟩ := hout (k + 1) (by omega) (by omega)
    have hok : gi o ((k + 1 : Nat) : Int) = gi out ((k + 1 : Nat) : Int) := i2 (k + 1) (Nat.le_refl _)
    have hent := hf (k + 1) (by omega) (by omega)
    have hbk := h1.le h.lt (by omega)
    have hlast : Ab.last f o (k + 1) = if gi o ((k + 1 : Nat) : Int) ≠ gi f.entry ((k + 1 : Nat) : Int) then o.set (k + 1) (gi o (gi o ((k + 1 : Nat) : Int))) else o := rfl
    have hold : ∀ o' : List Int, (∀ x : Nat, x ≠ k + 1 → gi o' x = gi o x) → ∀ w, 0 < w → w < k + 1 → ∃ u, Up P u w ∧ sm w < u ∧ (∀ y, Up P y w → sm w < y → sm u ≤ sm y) ∧ ((sm u = sm w ∧ pN o' w = sm w) ∨ (sm u < sm w ∧ pN o' w = pN o' u)) := by
      intro o' ho w w0 hw
      obtain ⟨u, p1, p2, p3, p4⟩ := i3 w w0 hw
      have huw := p1.le h.lt (by omega)
      have e1 : pN o' w = pN o w := by unfold pN; rw [ho w (by omega)]
      have e2 : pN o' u = pN o u := by unfold pN; rw [ho u (by omega)]
      exact ⟨u, p1, p2, p3, by rw [e1, e2]; exact p4⟩
    rw [hlast, hok, hent]
    rcases h4 with ⟨e1, e2⟩ | ⟨e1, e2⟩
    · rw [if_neg (by rw [e2]; omega)]
      refine ⟨i1, fun x hx => i2 x (by omega), fun w w0 hw => ?_⟩
      by_cases e : w = k + 1
      · subst e
        refine ⟨b, h1, h2, h3, .inl ⟨e1, ?_⟩⟩
        unfold pN
        rw [hok, e2, Int.toNat_natCast]
      · exact hold o (fun _ _ => rfl) w w0 (by omega)
    · have hbne : b ≠ k + 1 := fun e => by subst e; omega
      rw [e2, if_pos (by omega)]
      have hs : ∀ x : Nat, gi (o.set (k + 1) (gi o (b : Int))) x = if x = k + 1 then gi o (b : Int) else gi o x := fun x => set_at hko _ x
      refine ⟨by rw [List.length_set]; exact i1, fun x hx => by rw [hs, if_neg (by omega)]; exact i2 x (by omega), fun w w0 hw => ?_⟩
      by_cases e : w = k + 1
      · subst e
        refine ⟨b, h1, h2, h3, .inr ⟨e1, ?_⟩⟩
        unfold pN
        rw [hs, hs, if_pos rfl, if_neg hbne]
      · exact hold _ (fun x hx => by rw [hs, if_neg hx]) w w0 (by omega)
/-- ABOVE IS RIGHT. -/
theorem above_abv {w : Wk} {sm : Nat → Nat} {E : Nat → Nat → Prop} (h : DT w.par.length (pN w.par) E) (hs : SD w.par.length E sm) (hfit : w.fit) (h0 : 0 < w.par.length) (hE : ∀ u v : Nat, E u v ↔ v < w.par.length ∧ (u : Int) ∈ gr w.ins v) :
    Abv w.par.length (pN w.par) sm (pN (aboveL w)) := by
  have hwp : ∀ v : Nat, 0 < v → v < w.par.length → gi w.par v = (pN w.par v : Int) := by
    intro v v0 hv
    have := (hfit.par v v0 hv).1
    unfold pN
    omega
  have hwE : ∀ v : Nat, v < w.par.length → ∀ z ∈ gr w.ins v, ∃ src : Nat, z = (src : Int) ∧ E src v := by
    intro v hv z hz
    have := (hfit.ins v z hz).1
    refine ⟨z.toNat, by omega, (hE _ _).2 ⟨hv, ?_⟩⟩
    rw [Int.toNat_of_nonneg this]
    exact hz
  have hwI : ∀ src v, E src v → (src : Int) ∈ gr w.ins v := fun src v hh => ((hE src v).1 hh).2
  unfold aboveL
  dsimp only
  generalize hP : pN w.par = P at *
  generalize hn : w.par.length = n at *
  obtain ⟨k, rfl⟩ : ∃ k, n = k + 1 := ⟨n - 1, by omega⟩
  have hfs : FS (k + 1) P sm (Fn.new (k + 1)) k := by
    refine ⟨by simp [Fn.new], by simp [Fn.new, upto], by simp [Fn.new, upto], fun x hx hxn => ⟨?_, ?_⟩, fun x hx hxn => by omega, fun x hx hxn => by omega⟩
    · unfold Fn.new gi
      dsimp only
      rw [Int.toNat_natCast, List.getD_eq_getElem?_getD, List.getElem?_replicate, if_pos hxn]; rfl
    · unfold Fn.new upto gi
      dsimp only
      rw [Int.toNat_natCast, List.getD_eq_getElem?_getD, List.getElem?_map, List.getElem?_range hxn]; rfl
  have has : AS (k + 1) P sm ⟨Fn.new (k + 1), List.replicate (k + 1) 0, List.replicate (k + 1) []⟩ k := by
    refine ⟨hfs, fun x hx hxn => ?_, by simp, by simp, fun e z hz => ?_, fun u hu hun => by omega⟩
    · unfold Fn.new upto gi
      dsimp only
      rw [Int.toNat_natCast, List.getD_eq_getElem?_getD, List.getElem?_map, List.getElem?_range hxn]; rfl
    · dsimp only at hz
      unfold gr at hz
      rw [Int.toNat_natCast, List.getD_eq_getElem?_getD, List.getElem?_replicate] at hz
      split at hz <;> cases hz
  have hr := AS.rounds h hs hwp hwE hwI k _ (Nat.le_refl _) has
  generalize (down (k + 1)).foldl (Ab.round w) ⟨Fn.new (k + 1), List.replicate (k + 1) 0, List.replicate (k + 1) []⟩ = a at *
  refine fun x x0 hx => (last_abv h (f := a.f) (fun y y0 hy => hr.f.ent y y0 hy) hr.ol (fun u u0 hu => ?_) (k + 1) (Nat.le_refl _)).2.2 x x0 hx
  rcases hr.done u u0 hu with hd | hd
  · exact hd
  · obtain ⟨u', c, _, _, _, _, q5, q6, _⟩ := hr.wait _ _ hd
    omega
end Go.Proofs.Ytipongpgmbhpkaa

namespace Go.Proofs.Ytipongpgmbhpkaa
set_option linter.unusedVariables false

def ER (outs : List (List Int)) (u v : Nat) : Prop := v < (walkedL outs).par.length ∧ (u : Int) ∈ gr (walkedL outs).ins v
theorem anc_up {above : List Int} {a b : Nat} : Anc above a b ↔ Up (pN above) a b := by
  constructor
  · intro h
    induction h with
    | refl => exact .refl _
    | down b h0 _ ih => exact .down _ _ h0 ih
  · intro h
    induction h with
    | refl => exact .refl _
    | down b h0 _ ih => exact .down _ _ h0 ih
theorem over_av {outs : List (List Int)} (h : outs ≠ []) {a b u v : Nat} (ha : a < outs.length) (hb : b < outs.length) (hu : gi (walkedL outs).num a = (u : Int)) (hv : gi (walkedL outs).num b = (v : Int)) : (ofL outs).over a b = true ↔ ¬ Av (ER outs) u v := by
  obtain ⟨h1, h2, h3⟩ := walked_dt h
  have hw := walked_end h
  obtain ⟨sm, hs⟩ := exists_sd h1
  have hab := above_abv h1 hs hw.fit hw.pos (fun u v => Iff.rfl)
  have hvn : v < (walkedL outs).par.length := by rcases hw.num b hb with e | e <;> omega
  rw [over_iff h ha hb, hu, hv, Int.toNat_natCast, Int.toNat_natCast, anc_up, up_iff h1 hs hab v v u (Nat.le_refl _) hvn]
  exact ⟨fun c => c.2.2, fun c => ⟨by omega, by omega, c⟩⟩
section
variable {ways : List (List Int)} (h : ways ≠ [])
include h
/-- What is come to without going through k. -/
theorem rch_av {k b : Nat} (hk : k < ways.length) (hb : b < ways.length) (h0 : 0 ≠ k) {u : Nat} (hku : gi (walkedL (outsOf ways)).num k = (u : Int)) {v : Nat} (hbv : gi (walkedL (outsOf ways)).num b = (v : Int)) : Rch ways k 0 b ↔ Av (ER (outsOf ways)) u v := by
  have ho := outs_ne h
  have hl := outs_len ways
  obtain ⟨h1, h2, h3⟩ := walked_dt ho
  have hw := walked_end ho
  have hinj : ∀ i j : Nat, i < ways.length → j < ways.length → gi (walkedL (outsOf ways)).num i = gi (walkedL (outsOf ways)).num j → gi (walkedL (outsOf ways)).num i ≠ -1 → i = j := fun i j hi hj => hw.inj i j (by omega) (by omega)
  have hwl : 0 < ways.length := by omega
  constructor
  · intro hr
    have key : ∀ b, Rch ways k 0 b → b < ways.length ∧ ∃ v : Nat, gi (walkedL (outsOf ways)).num b = (v : Int) ∧ Av (ER (outsOf ways)) u v := by
      intro b hb
      induction hb with
      | start _ hl => exact ⟨hl, 0, by rw [hw.root]; rfl, fun e => h0 (hinj 0 k hwl hk (by rw [hw.root]; omega) (by rw [hw.root]; decide)), .nil⟩
      | go c t _ hcl hr ht hne ih =>
        obtain ⟨_, w, hcw, hav⟩ := ih
        have hto := (mem_outs ht).2 hr
        have htn := hw.went c t (by omega) (by omega) hto (by omega)
        rcases hw.num t (by omega) with e | ⟨e1, e2⟩
        · exact absurd e htn
        · obtain ⟨z, hz⟩ : ∃ z : Nat, gi (walkedL (outsOf ways)).num t = z := ⟨(gi (walkedL (outsOf ways)).num t).toNat, by omega⟩
          refine ⟨ht, z, hz, hav.1, .go w z hav.2 ⟨by omega, h2 c t w z (by omega) (by omega) hcw hz hto⟩ (fun e => hne ?_)⟩
          have := hinj t k ht hk (by rw [hz, hku, e]) htn
          omega
    obtain ⟨_, v', hv', hav⟩ := key b hr
    obtain rfl : v' = v := by omega
    exact hav
  · rintro ⟨q0, hp⟩
    have key : ∀ v, PIn (ER (outsOf ways)) (fun z => z ≠ u) 0 v → ∀ b : Nat, b < ways.length → gi (walkedL (outsOf ways)).num b = (v : Int) → Rch ways k 0 b := by
      intro v hv
      induction hv with
      | nil =>
        intro b hb hbv
        obtain rfl := hinj b 0 hb hwl (by rw [hbv, hw.root]; rfl) (by omega)
        exact .start (by omega) hwl
      | go x y _ hE hne ih =>
        intro b hb hbv
        obtain ⟨b', t', e1, e2, e3, e4, e5⟩ := h3 x y hE.1 hE.2
        obtain rfl := hinj b t' hb (by omega) (by rw [hbv, e4]) (by omega)
        refine .go b' b (ih b' (by omega) e3) (by omega) ((mem_outs hb).1 e5) hb (fun e => hne ?_)
        obtain rfl : b = k := by omega
        omega
    exact key v hp b hb hbv
theorem rch_all {k b : Nat} (hk : k < ways.length) (hb : b < ways.length) (h0 : 0 ≠ k) (hku : gi (walkedL (outsOf ways)).num k = -1) (hbv : gi (walkedL (outsOf ways)).num b ≠ -1) : Rch ways k 0 b := by
  have ho := outs_ne h
  have hl := outs_len ways
  have hw := walked_end ho
  have hwl : 0 < ways.length := by omega
  refine (hw.least (fun c => gi (walkedL (outsOf ways)).num c ≠ -1 ∧ Rch ways k 0 c) ⟨by rw [hw.root]; decide, .start (by omega) hwl⟩ (fun c t hc hcl hr ht => ?_) b (by omega) hbv).2
  have htn := hw.went c t hcl hc.1 hr ht
  refine ⟨htn, .go c t hc.2 (by omega) ((mem_outs (by omega)).1 hr) (by omega) (fun e => htn ?_)⟩
  obtain rfl : t = k := by omega
  exact hku
/-- OVER IS RIGHT. -/
theorem over_from {k b : Nat} (hk : k < ways.length) (hb : b < ways.length) : (ofL (outsOf ways)).over k b = ((fromL ways ((0 : Nat) : Int) (-1)).getD b false && !(fromL ways ((0 : Nat) : Int) (k : Int)).getD b false) := by
  have ho := outs_ne h
  have hl := outs_len ways
  have hw := walked_end ho
  have hwl : 0 < ways.length := by omega
  by_cases h0 : 0 = k
  · subst h0
    rw [over_zero h hb]
    have : (fromL ways ((0 : Nat) : Int) ((0 : Nat) : Int)).getD b false = false := by
      unfold fromL
      rw [if_pos (.inl rfl), List.getD_eq_getElem?_getD, List.getElem?_replicate]
      split <;> rfl
    rw [this]; simp
  · have hall : (fromL ways ((0 : Nat) : Int) (-1)).getD b false = true ↔ gi (walkedL (outsOf ways)).num b ≠ -1 := all_num h hb
    have hsome : (fromL ways ((0 : Nat) : Int) (k : Int)).getD b false = true ↔ Rch ways k 0 b := from_iff hwl (by omega)
    by_cases hbn : gi (walkedL (outsOf ways)).num b = -1
    · have h1 : (fromL ways ((0 : Nat) : Int) (-1)).getD b false = false := by
        cases hc : (fromL ways ((0 : Nat) : Int) (-1)).getD b false
        · rfl
        · exact absurd hbn (hall.1 hc)
      rw [h1, Bool.false_and]
      cases hc : (ofL (outsOf ways)).over k b
      · rfl
      · exact absurd hbn ((over_iff ho (by omega) (by omega)).1 hc).2.1
    · rw [hall.2 hbn, Bool.true_and]
      by_cases hkn : gi (walkedL (outsOf ways)).num k = -1
      · rw [hsome.2 (rch_all h hk hb h0 hkn hbn)]
        cases hc : (ofL (outsOf ways)).over k b
        · rfl
        · exact absurd hkn ((over_iff ho (by omega) (by omega)).1 hc).1
      · obtain ⟨u, hu⟩ : ∃ u : Nat, gi (walkedL (outsOf ways)).num k = u := ⟨(gi (walkedL (outsOf ways)).num k).toNat, by rcases hw.num k (by omega) with e | e <;> omega⟩
        obtain ⟨v, hv⟩ : ∃ v : Nat, gi (walkedL (outsOf ways)).num b = v := ⟨(gi (walkedL (outsOf ways)).num b).toNat, by rcases hw.num b (by omega) with e | e <;> omega⟩
        refine bool_iff ?_
        rw [over_av ho (by omega) (by omega) hu hv, Bool.not_eq_true', ← Bool.not_eq_true, hsome, rch_av h hk hb h0 hu hv]
end
end Go.Proofs.Ytipongpgmbhpkaa
