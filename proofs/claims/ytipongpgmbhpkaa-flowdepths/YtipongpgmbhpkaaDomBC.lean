/-
  dom: the tree: who is over whom.
-/
import Derived.Test.YtipongpgmbhpkaaDomBB
namespace Go.Proofs.Ytipongpgmbhpkaa
set_option linter.unusedVariables false

def upOf (above : List Int) (v : Nat) : Nat := (gi above v).toNat
/-- The sizes of the first j numbers that are right below v. -/
def csum (above S : List Int) : Nat → Nat → Int
  | 0, _ => 0
  | j + 1, v => csum above S j v + (if 0 < j ∧ upOf above j = v then gi S j else 0)
theorem low_up {above : List Int} {n : Nat} (h : Low above n) {v : Nat} (h0 : 0 < v) (hv : v < n) : upOf above v < v ∧ gi above v = (upOf above v : Int) := by
  have := h.2 v h0 hv
  unfold upOf
  omega
theorem csum_zero {above S : List Int} {n : Nat} (h : Low above n) : ∀ (j v : Nat), j ≤ n → j ≤ v + 1 → csum above S j v = 0
  | 0, _, _, _ => rfl
  | j + 1, v, hj, hv => by
    unfold csum
    rw [csum_zero h j v (by omega) (by omega), if_neg]
    · rfl
    · intro hc
      have := (low_up h hc.1 (by omega)).1
      omega
theorem set_at {l : List Int} {u : Nat} (hu : u < l.length) (x : Int) (c : Nat) : gi (l.set u x) c = if c = u then x else gi l c := by
  rw [gi_set hu _ _ (by omega)]
  by_cases e : c = u
  · rw [if_pos (by omega), if_pos e]
  · rw [if_neg (by omega), if_neg e]
theorem sizes_fin {above : List Int} {n : Nat} (h : Low above n) : ∀ (k : Nat) (s : List Int), k ≤ n → s.length = n →
    ((List.range k).reverse.foldl (sizeStep above) s).length = n ∧ (∀ v : Nat, k ≤ v → gi ((List.range k).reverse.foldl (sizeStep above) s) v = gi s v) ∧
    (∀ v : Nat, v < k → gi ((List.range k).reverse.foldl (sizeStep above) s) v = 1 + gi s v + csum above ((List.range k).reverse.foldl (sizeStep above) s) k v)
  | 0, s, _, hl => ⟨hl, fun _ _ => rfl, fun v hv => by omega⟩
  | k + 1, s, hk, hl => by
    rw [range_rev, List.foldl_cons]
    have hkl : k < s.length := by omega
    have hst : (sizeStep above s k).length = n ∧ ∀ v : Nat, gi (sizeStep above s k) v = if v = k then gi s k + 1 else if 0 < k ∧ upOf above k = v then gi s v + (gi s k + 1) else gi s v := by
      unfold sizeStep
      dsimp only
      by_cases h0 : 0 < k
      · obtain ⟨u1, u2⟩ := low_up h h0 (by omega)
        rw [if_pos h0, u2, Int.toNat_natCast]
        refine ⟨by rw [List.length_set, List.length_set]; exact hl, fun v => ?_⟩
        rw [set_at (by rw [List.length_set]; omega), set_at hkl, set_at hkl, set_at hkl, if_pos rfl, if_neg (show upOf above k ≠ k by omega)]
        by_cases e1 : v = k
        · rw [if_pos e1, if_pos e1, if_neg (by omega)]
        · rw [if_neg e1, if_neg e1]
          by_cases e2 : v = upOf above k
          · rw [if_pos e2, if_pos ⟨h0, e2.symm⟩, e2]
          · rw [if_neg e2, if_neg (fun c => e2 c.2.symm)]
      · rw [if_neg h0]
        refine ⟨by rw [List.length_set]; exact hl, fun v => ?_⟩
        rw [set_at hkl]
        by_cases e1 : v = k
        · rw [if_pos e1, if_pos e1]
        · rw [if_neg e1, if_neg e1, if_neg (fun c => h0 c.1)]
    obtain ⟨p1, p2, p3⟩ := sizes_fin h k (sizeStep above s k) (by omega) hst.1
    generalize (List.range k).reverse.foldl (sizeStep above) (sizeStep above s k) = T at *
    have hTk : gi T k = gi s k + 1 := by rw [p2 k (Nat.le_refl _), hst.2, if_pos rfl]
    refine ⟨p1, fun v hv => ?_, fun v hv => ?_⟩
    · rw [p2 v (by omega), hst.2, if_neg (by omega), if_neg]
      intro c
      have := (low_up h c.1 (by omega)).1
      omega
    · by_cases e : v = k
      · subst e
        rw [hTk, csum_zero h (v + 1) v hk (Nat.le_refl _)]
        omega
      · rw [p3 v (by omega), hst.2, if_neg e]
        show _ = 1 + gi s v + (csum above T k v + _)
        by_cases c : 0 < k ∧ upOf above k = v
        · rw [if_pos c, if_pos c, hTk]; omega
        · rw [if_neg c, if_neg c]; omega
structure LJ (above S : List Int) (n j : Nat) (x : List Int × List Int) : Prop where
  l1 : x.1.length = n
  l2 : x.2.length = n
  z : ∀ c : Nat, j ≤ c → c < n → gi x.1 c = 0
  root : gi x.1 ((0 : Nat) : Int) = 0
  at' : ∀ c : Nat, 0 < c → c < j → gi x.1 c = gi x.1 (upOf above c) + 1 + csum above S c (upOf above c)
  free : ∀ v : Nat, v < j → gi x.2 v = gi x.1 v + 1 + csum above S j v
theorem LJ.step {above S : List Int} {n j : Nat} {x : List Int × List Int} (h : LJ above S n j x) (hl : Low above n) (hj : j < n) : LJ above S n (j + 1) (laidStep above S x j) := by
  have hj1 : j < x.1.length := by rw [h.l1]; exact hj
  have hj2 : j < x.2.length := by rw [h.l2]; exact hj
  unfold laidStep
  dsimp only
  by_cases h0 : 0 < j
  · obtain ⟨u1, u2⟩ := low_up hl h0 hj
    have hp2 : upOf above j < x.2.length := by omega
    rw [if_pos h0, u2, Int.toNat_natCast]
    dsimp only
    have a1 : ∀ c : Nat, gi (x.1.set j (gi x.2 (upOf above j))) c = if c = j then gi x.2 (upOf above j) else gi x.1 c := fun c => set_at hj1 _ c
    refine ⟨by dsimp only; rw [List.length_set]; exact h.l1, by dsimp only; rw [List.length_set, List.length_set]; exact h.l2, fun c hc hcn => ?_, ?_, fun c c0 hc => ?_, fun v hv => ?_⟩
    · dsimp only; rw [a1, if_neg (by omega)]; exact h.z c (by omega) hcn
    · dsimp only; rw [a1, if_neg (by omega)]; exact h.root
    · dsimp only
      rw [a1, a1]
      by_cases e : c = j
      · rw [if_pos e, e, if_neg (by omega), h.free _ u1]
      · rw [if_neg e, if_neg (by have := (low_up hl c0 (by omega)).1; omega)]
        exact h.at' c c0 (by omega)
    · dsimp only
      rw [set_at (by rw [List.length_set]; exact hj2), set_at hp2, a1, a1, if_pos rfl]
      show _ = _ + 1 + (csum above S j v + _)
      by_cases e : v = j
      · subst e
        rw [if_pos rfl, if_pos rfl, csum_zero hl v v (by omega) (by omega), if_neg (by omega)]
        omega
      · rw [if_neg e, if_neg e]
        by_cases e2 : v = upOf above j
        · rw [if_pos e2, if_pos ⟨h0, e2.symm⟩, ← e2, h.free v (by omega)]; omega
        · rw [if_neg e2, if_neg (fun c => e2 c.2.symm), h.free v (by omega)]; omega
  · obtain rfl : j = 0 := by omega
    rw [if_neg h0]
    refine ⟨h.l1, by dsimp only; rw [List.length_set]; exact h.l2, fun c hc hcn => h.z c (by omega) hcn, h.root, fun c c0 hc => by omega, fun v hv => ?_⟩
    obtain rfl : v = 0 := by omega
    dsimp only
    rw [set_at hj2, if_pos rfl]
    show _ = _ + 1 + (csum above S 0 0 + _)
    have hc0 : csum above S 0 0 = 0 := rfl
    rw [hc0, if_neg (fun c => h0 c.1)]
    omega
theorem LJ.run {above S : List Int} {n : Nat} (hl : Low above n) : ∀ j, j ≤ n → LJ above S n j ((List.range j).foldl (laidStep above S) (List.replicate n 0, List.replicate n 0))
  | 0, _ => by
    have hz : ∀ c : Nat, gi (List.replicate n 0) c = 0 := by
      intro c
      unfold gi
      rw [Int.toNat_natCast, List.getD_eq_getElem?_getD, List.getElem?_replicate]
      split <;> rfl
    exact ⟨by simp, by simp, fun c _ _ => hz c, hz 0, fun c _ hc => by omega, fun v hv => by omega⟩
  | j + 1, hj => by
    rw [List.range_succ, List.foldl_append]
    exact (LJ.run hl j (by omega)).step hl (by omega)
/-- Places and sizes of numbers that lie below each other. -/
structure Nest (above S A : List Int) (n : Nat) : Prop where
  low : Low above n
  size : ∀ v : Nat, v < n → gi S v = 1 + csum above S n v
  root : gi A ((0 : Nat) : Int) = 0
  at' : ∀ c : Nat, 0 < c → c < n → gi A c = gi A (upOf above c) + 1 + csum above S c (upOf above c)
theorem csum_nn {above S : List Int} {n : Nat} (hl : Low above n) {v : Nat} (h : ∀ c : Nat, v < c → c < n → 0 ≤ gi S c) : ∀ j, j ≤ n → 0 ≤ csum above S j v
  | 0, _ => Int.le_refl _
  | j + 1, hj => by
    have := csum_nn hl h j (by omega)
    unfold csum
    split
    · rename_i c
      have h1 := (low_up hl c.1 (by omega)).1
      have := h j (by omega) (by omega)
      omega
    · omega
theorem Nest.pos {above S A : List Int} {n : Nat} (h : Nest above S A n) : ∀ (d v : Nat), n - v ≤ d → v < n → 1 ≤ gi S v
  | 0, v, hd, hv => by omega
  | d + 1, v, hd, hv => by
    rw [h.size v hv]
    have := csum_nn h.low (S := S) (v := v) (fun c hc hcn => by have := h.pos d c (by omega) hcn; omega) n (Nat.le_refl _)
    omega
theorem csum_mono {above S : List Int} {n : Nat} (hs : ∀ v : Nat, v < n → 1 ≤ gi S v) (v : Nat) : ∀ (j k : Nat), j ≤ k → k ≤ n → csum above S j v ≤ csum above S k v
  | j, 0, hj, _ => by obtain rfl : j = 0 := (by omega); exact Int.le_refl _
  | j, k + 1, hj, hk => by
    by_cases e : j = k + 1
    · subst e; exact Int.le_refl _
    · have := csum_mono (above := above) hs v j k (by omega) (by omega)
      have h1 := hs k (by omega)
      show _ ≤ csum above S k v + _
      split <;> omega
theorem Nest.child {above S A : List Int} {n : Nat} (h : Nest above S A n) {c : Nat} (c0 : 0 < c) (hc : c < n) : gi A (upOf above c) < gi A c ∧ gi A c + gi S c ≤ gi A (upOf above c) + gi S (upOf above c) := by
  have hs : ∀ v : Nat, v < n → 1 ≤ gi S v := fun v hv => h.pos n v (by omega) hv
  have hp := (low_up h.low c0 hc).1
  have h1 := h.at' c c0 hc
  have h2 := h.size (upOf above c) (by omega)
  have h3 := csum_mono hs (above := above) (upOf above c) (c + 1) n (by omega) (Nat.le_refl _)
  have h4 : csum above S (c + 1) (upOf above c) = csum above S c (upOf above c) + gi S c := by
    show csum above S c (upOf above c) + _ = _
    rw [if_pos ⟨c0, rfl⟩]
  have h5 := csum_nn h.low (S := S) (v := upOf above c) (fun x _ hx => by have := hs x hx; omega) c (by omega)
  omega
theorem Nest.sib {above S A : List Int} {n : Nat} (h : Nest above S A n) {c d : Nat} (c0 : 0 < c) (hcd : c < d) (hd : d < n) (e : upOf above c = upOf above d) : gi A c + gi S c ≤ gi A d := by
  have hs : ∀ v : Nat, v < n → 1 ≤ gi S v := fun v hv => h.pos n v (by omega) hv
  have h1 := h.at' c c0 (by omega)
  have h2 := h.at' d (by omega) hd
  have h3 := csum_mono hs (above := above) (upOf above d) (c + 1) d (by omega) (by omega)
  have h4 : csum above S (c + 1) (upOf above d) = csum above S c (upOf above d) + gi S c := by
    show csum above S c (upOf above d) + _ = _
    rw [if_pos ⟨c0, e⟩]
  rw [e] at h1
  omega
inductive Anc (above : List Int) : Nat → Nat → Prop
  | refl (a : Nat) : Anc above a a
  | down (a b : Nat) : 0 < b → Anc above a (upOf above b) → Anc above a b
theorem Anc.trans {above : List Int} {a b c : Nat} (h1 : Anc above a b) (h2 : Anc above b c) : Anc above a c := by
  induction h2 with
  | refl => exact h1
  | down c h0 _ ih => exact .down _ _ h0 ih
theorem Anc.le {above : List Int} {n : Nat} (hl : Low above n) {a b : Nat} (h : Anc above a b) : b < n → a ≤ b := by
  induction h with
  | refl => exact fun _ => Nat.le_refl _
  | down b h0 _ ih =>
    intro hb
    have := (low_up hl h0 hb).1
    have := ih (by omega)
    omega
theorem Anc.zero {above : List Int} {n : Nat} (hl : Low above n) : ∀ (k b : Nat), b ≤ k → b < n → Anc above 0 b
  | 0, b, hk, hb => by obtain rfl : b = 0 := (by omega); exact .refl 0
  | k + 1, b, hk, hb => by
    by_cases e : b = 0
    · subst e; exact .refl 0
    · exact .down _ _ (by omega) (Anc.zero hl k _ (by have := (low_up hl (v := b) (by omega) hb).1; omega) (by have := (low_up hl (v := b) (by omega) hb).1; omega))
theorem Nest.anc {above S A : List Int} {n : Nat} (h : Nest above S A n) {a b : Nat} (hab : Anc above a b) : b < n → gi A a ≤ gi A b ∧ gi A b + gi S b ≤ gi A a + gi S a ∧ (a = b ∨ gi A a < gi A b) := by
  induction hab with
  | refl => exact fun _ => ⟨Int.le_refl _, Int.le_refl _, .inl rfl⟩
  | down b h0 _ ih =>
    intro hb
    have h1 := (low_up h.low h0 hb).1
    obtain ⟨p1, p2, p3⟩ := ih (by omega)
    obtain ⟨q1, q2⟩ := h.child h0 hb
    exact ⟨by omega, by omega, .inr (by omega)⟩
theorem Anc.child {above : List Int} {p a : Nat} (h : Anc above p a) : a ≠ p → ∃ c, 0 < c ∧ upOf above c = p ∧ Anc above c a := by
  induction h with
  | refl => exact fun e => absurd rfl e
  | down b h0 hb ih =>
    intro _
    by_cases e : upOf above b = p
    · exact ⟨b, h0, e, .refl b⟩
    · obtain ⟨c, c0, c1, c2⟩ := ih e
      exact ⟨c, c0, c1, .down _ _ h0 c2⟩
theorem Nest.of {above S A : List Int} {n : Nat} (h : Nest above S A n) : ∀ (m a b : Nat), a + b ≤ m → a < n → b < n → gi A a ≤ gi A b → gi A b < gi A a + gi S a → Anc above a b
  | 0, a, b, hm, _, _, _, _ => by
    obtain rfl : a = 0 := by omega
    obtain rfl : b = 0 := by omega
    exact .refl 0
  | m + 1, a, b, hm, ha, hb, h1, h2 => by
    by_cases e : a = b
    · subst e; exact .refl a
    · have hs : ∀ v : Nat, v < n → 1 ≤ gi S v := fun v hv => h.pos n v (by omega) hv
      have hroot : ∀ v : Nat, v < n → v ≠ 0 → 0 < gi A v := by
        intro v hv hv0
        have := (h.anc (Anc.zero h.low v v (Nat.le_refl _) hv) hv).2.2
        have hr := h.root
        rcases this with e | e
        · exact absurd e.symm hv0
        · omega
      by_cases b0 : b = 0
      · subst b0
        have := hroot a ha (by omega)
        have hr := h.root
        omega
      · have hup := (low_up h.low (v := b) (by omega) hb).1
        obtain ⟨c1, c2⟩ := h.child (c := b) (by omega) hb
        by_cases hc : gi A a ≤ gi A (upOf above b)
        · exact .down _ _ (by omega) (h.of m a (upOf above b) (by omega) ha (by omega) hc (by omega))
        · exfalso
          have hsb := hs b hb
          have hpa := h.of m (upOf above b) a (by omega) (by omega) ha (by omega) (by omega)
          have hne : a ≠ upOf above b := fun e2 => by rw [e2] at hc; omega
          obtain ⟨c, c0, cu, ca⟩ := hpa.child hne
          have hcn : c < n := by have := ca.le h.low ha; omega
          obtain ⟨d1, d2, d3⟩ := h.anc ca ha
          rcases Nat.lt_trichotomy c b with hlt | heq | hgt
          · have := h.sib c0 hlt hb cu; omega
          · subst heq
            rcases d3 with d3 | d3
            · exact e d3.symm
            · omega
          · have := h.sib (c := b) (d := c) (by omega) hgt hcn cu.symm; omega
theorem nest_tree {above : List Int} {n : Nat} (hl : Low above n) : Nest above ((List.range n).reverse.foldl (sizeStep above) (List.replicate n 0)) ((List.range n).foldl (laidStep above ((List.range n).reverse.foldl (sizeStep above) (List.replicate n 0))) (List.replicate n 0, List.replicate n 0)).1 n := by
  obtain ⟨s1, s2, s3⟩ := sizes_fin hl n (List.replicate n 0) (Nat.le_refl _) (by simp)
  have hL := LJ.run (S := (List.range n).reverse.foldl (sizeStep above) (List.replicate n 0)) hl n (Nat.le_refl _)
  refine ⟨hl, fun v hv => ?_, hL.root, hL.at'⟩
  rw [s3 v hv]
  have : gi (List.replicate n 0) v = 0 := by
    unfold gi
    rw [Int.toNat_natCast, List.getD_eq_getElem?_getD, List.getElem?_replicate, if_pos hv]; rfl
  omega
/-- Who is over whom. -/
theorem over_iff {outs : List (List Int)} (h : outs ≠ []) {a b : Nat} (ha : a < outs.length) (hb : b < outs.length) :
    (ofL outs).over a b = true ↔ gi (walkedL outs).num a ≠ -1 ∧ gi (walkedL outs).num b ≠ -1 ∧ Anc (aboveL (walkedL outs)) (gi (walkedL outs).num a).toNat (gi (walkedL outs).num b).toNat := by
  have hw := walked_end h
  have hlow := low_of_walk h
  have hn := nest_tree hlow
  have hof : ofL outs = treeL (walkedL outs) (aboveL (walkedL outs)) := by
    cases outs with
    | nil => exact absurd rfl h
    | cons r rs => rfl
  generalize walkedL outs = w at *
  generalize hal : aboveL w = above at *
  have hlen : above.length = w.par.length := hlow.1
  have hmap : ∀ (f : Int → Int) (c : Nat), c < outs.length → gi (w.num.map f) c = f (gi w.num c) := by
    intro f c hc
    unfold gi
    rw [Int.toNat_natCast, List.getD_eq_getElem?_getD, List.getD_eq_getElem?_getD, List.getElem?_map, List.getElem?_eq_getElem (by rw [hw.nl]; exact hc)]
    rfl
  rw [hof]
  unfold Tr.over treeL
  dsimp only
  rw [hlen, hmap _ a ha, hmap _ b hb, hmap _ a ha]
  generalize (List.range w.par.length).reverse.foldl (sizeStep above) (List.replicate w.par.length 0) = S at *
  generalize ((List.range w.par.length).foldl (laidStep above S) (List.replicate w.par.length 0, List.replicate w.par.length 0)).1 = A at *
  have hAn : ∀ v : Nat, v < w.par.length → 0 ≤ gi A v := by
    intro v hv
    have := (hn.anc (Anc.zero hlow v v (Nat.le_refl _) hv) hv).1
    have hr := hn.root
    omega
  rw [Bool.and_eq_true, decide_eq_true_eq, decide_eq_true_eq]
  by_cases ea : gi w.num a = -1
  · rw [if_pos ea, if_pos ea]
    constructor
    · intro hc
      exfalso
      split at hc
      · omega
      · rename_i eb
        rcases hw.num b hb with e | ⟨e1, e2⟩
        · exact eb e
        · obtain ⟨y, hy⟩ : ∃ y : Nat, gi w.num b = y := ⟨(gi w.num b).toNat, by omega⟩
          rw [hy] at hc e2
          have := hAn y (by omega)
          omega
    · exact fun hc => absurd ea hc.1
  · rcases hw.num a ha with e | ⟨e1, e2⟩
    · exact absurd e ea
    obtain ⟨x, hx⟩ : ∃ x : Nat, gi w.num a = x := ⟨(gi w.num a).toNat, by omega⟩
    have hxn : x < w.par.length := by omega
    have hxA := hAn x hxn
    by_cases eb : gi w.num b = -1
    · rw [if_neg ea, if_neg ea, if_pos eb, hx]
      constructor
      · intro hc; omega
      · exact fun hc => absurd eb hc.2.1
    · rcases hw.num b hb with e | ⟨e3, e4⟩
      · exact absurd e eb
      obtain ⟨y, hy⟩ : ∃ y : Nat, gi w.num b = y := ⟨(gi w.num b).toNat, by omega⟩
      have hyn : y < w.par.length := by omega
      rw [if_neg ea, if_neg ea, if_neg eb, hx, hy, Int.toNat_natCast, Int.toNat_natCast]
      constructor
      · rintro ⟨h1, h2⟩
        exact ⟨by omega, by omega, hn.of (x + y) x y (Nat.le_refl _) hxn hyn h1 h2⟩
      · rintro ⟨_, _, h3⟩
        obtain ⟨p1, p2, _⟩ := hn.anc h3 hyn
        have := hn.pos w.par.length y (by omega) hyn
        exact ⟨p1, by omega⟩
end Go.Proofs.Ytipongpgmbhpkaa
