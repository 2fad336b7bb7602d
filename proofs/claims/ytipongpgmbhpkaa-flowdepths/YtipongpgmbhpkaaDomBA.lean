/-
  dom: what is above a number is less than it, for every graph.
-/
import Derived.Test.YtipongpgmbhpkaaDomAK
namespace Go.Proofs.Ytipongpgmbhpkaa
set_option linter.unusedVariables false

structure FL (f : Fn) (n v0 : Nat) : Prop where
  hl : f.hangs.length = n
  bl : f.best.length = n
  hang : ∀ v : Nat, v < n → gi f.hangs v = -1 ∨ (0 ≤ gi f.hangs v ∧ gi f.hangs v < (v : Int))
  lo : ∀ v : Nat, v < n → gi f.best v ≤ (v : Int)
  free : ∀ v : Nat, v ≤ v0 → v < n → gi f.hangs v = -1
theorem gi_neg (l : List Int) : gi l (-1) = gi l ((0 : Nat) : Int) := rfl
theorem FL.short {f : Fn} {n v0 : Nat} (h : FL f n v0) {u : Nat} (hu : u < n) (h0 : v0 < u) : FL (f.short u) n v0 := by
  have key : ∃ o : Nat, o ≤ u ∧ o < n ∧ (gi f.hangs (gi f.hangs u) = gi f.hangs o) ∧ gi f.best (gi f.hangs u) = gi f.best o ∧ (o < u ∨ gi f.hangs o = -1) := by
    rcases h.hang u hu with e | ⟨a, b⟩
    · refine ⟨0, Nat.zero_le _, by omega, by rw [e, gi_neg], by rw [e, gi_neg], .inr ?_⟩
      rcases h.hang 0 (by omega) with e2 | ⟨c, d⟩
      · exact e2
      · omega
    · refine ⟨(gi f.hangs u).toNat, by omega, by omega, ?_, ?_, .inl (by omega)⟩
      · congr 1; omega
      · congr 1; omega
  obtain ⟨o, h1, h2, h3, h4, h5⟩ := key
  unfold Fn.short
  dsimp only
  refine ⟨?_, ?_, fun v hv => ?_, fun v hv => ?_, fun v hv hn => ?_⟩
  · rw [List.length_set]; exact h.hl
  · split
    · rw [List.length_set]; exact h.bl
    · exact h.bl
  · rw [Int.toNat_natCast, gi_set (by rw [h.hl]; exact hu) _ _ (by omega)]
    split
    · rename_i e
      rw [h3]
      rcases h.hang o h2 with e2 | ⟨c, d⟩
      · exact .inl e2
      · rcases h5 with h5 | h5
        · exact .inr ⟨c, by omega⟩
        · exact .inl h5
    · exact h.hang v hv
  · split
    · rw [Int.toNat_natCast, gi_set (by rw [h.bl]; exact hu) _ _ (by omega)]
      split
      · rw [h4]
        have := h.lo o h2
        omega
      · exact h.lo v hv
    · exact h.lo v hv
  · rw [Int.toNat_natCast, gi_set (by rw [h.hl]; exact hu) _ _ (by omega), if_neg (by omega)]
    exact h.free v hv hn
theorem FL.shorts {n v0 : Nat} : ∀ (l : List Int) (f : Fn), FL f n v0 → (∀ u ∈ l, (v0 : Int) < u ∧ u < (n : Int)) → FL (f.shorts l) n v0
  | [], f, h, _ => h
  | u :: us, f, h, hl => by
    have h1 := hl u (List.mem_cons_self ..)
    obtain ⟨m, rfl⟩ : ∃ m : Nat, u = m := ⟨u.toNat, by omega⟩
    exact FL.shorts us _ (h.short (by omega) (by omega)) (fun x hx => hl x (List.mem_cons_of_mem _ hx))
theorem FL.least {f : Fn} {n v0 : Nat} (h : FL f n v0) (hok : f.ok n) {v : Nat} (hv : v < n) : FL (f.least v).2 n v0 ∧ 0 ≤ (f.least v).1 ∧ (f.least v).1 ≤ (v : Int) := by
  have h0 := (hok.least hv).2.1
  unfold Fn.least at h0 ⊢
  split
  · exact ⟨h, by show 0 ≤ (v : Int); omega, Int.le_refl _⟩
  · rename_i hh
    rw [if_neg hh] at h0
    obtain ⟨i1, i2⟩ := hok.way f.hangs.length v hv hh
    have hg : FL (f.shorts (f.way f.hangs.length v).reverse) n v0 := by
      refine h.shorts _ _ (fun u hu => ?_)
      obtain ⟨⟨j0, j1⟩, j2, _⟩ := i1 u (List.mem_reverse.1 hu)
      refine ⟨?_, j1⟩
      by_cases hlt : (v0 : Int) < u
      · exact hlt
      · obtain ⟨m, rfl⟩ : ∃ m : Nat, u = m := ⟨u.toNat, by omega⟩
        exact absurd (h.free m (by omega) (by omega)) j2.1
    exact ⟨hg, h0, hg.lo v hv⟩
/-- The state of above, as far as numbers are less than others. -/
structure AL (a : Ab) (n v0 : Nat) : Prop where
  fl : FL a.f n v0
  ent : ∀ x : Nat, x < n → gi a.f.entry x ≤ (x : Int)
  out : ∀ x : Nat, x < n → gi a.out x < (x : Int) ∨ gi a.out x = 0
  wait : ∀ (e : Nat), ∀ u ∈ gr a.waiting e, (e : Int) < u
theorem came_al {a : Ab} {n M v0 v src : Nat} (h : AL a n v0) (hok : a.ok n M) (hv : v < n) (hs : src < n) : AL (Ab.came v a src) n v0 ∧ gi (Ab.came v a src).f.entry v ≤ gi a.f.entry v ∧ (src ≤ v0 → gi (Ab.came v a src).f.entry v ≤ (src : Int)) := by
  obtain ⟨h1, h2, h3⟩ := h.fl.least hok.f hs
  have he : (Ab.came v a src).f.entry = a.f.entry.set v (min (gi a.f.entry v) (gi a.f.entry (a.f.least src).1)) := by
    unfold Ab.came; dsimp only; rw [least_entry, Int.toNat_natCast]
  have hvl : v < a.f.entry.length := by rw [hok.f.el]; exact hv
  have hg : ∀ x : Nat, gi (Ab.came v a src).f.entry x = if x = v then min (gi a.f.entry v) (gi a.f.entry (a.f.least src).1) else gi a.f.entry x := by
    intro x
    rw [he, gi_set hvl _ _ (by omega)]
    by_cases e : x = v
    · rw [if_pos (by omega), if_pos e]
    · rw [if_neg (by omega), if_neg e]
  refine ⟨⟨⟨h1.hl, h1.bl, h1.hang, h1.lo, h1.free⟩, fun x hx => ?_, h.out, h.wait⟩, ?_, fun hsv => ?_⟩
  · rw [hg x]
    have := h.ent v hv
    have := h.ent x hx
    split
    · subst x; omega
    · omega
  · rw [hg v, if_pos rfl]; omega
  · rw [hg v, if_pos rfl]
    have hl : a.f.least src = ((src : Int), a.f) := by unfold Fn.least; rw [if_pos (h.fl.free src hsv hs)]
    rw [hl]
    have := h.ent src hs
    dsimp only
    omega
theorem comes_al {n M v0 v : Nat} (hv : v < n) : ∀ (l : List Int) (a : Ab), AL a n v0 → a.ok n M → (∀ x ∈ l, 0 ≤ x ∧ x < (n : Int)) → AL (l.foldl (Ab.came v) a) n v0 ∧ gi (l.foldl (Ab.came v) a).f.entry v ≤ gi a.f.entry v ∧ (∀ x ∈ l, x ≤ (v0 : Int) → gi (l.foldl (Ab.came v) a).f.entry v ≤ x)
  | [], a, h, _, _ => ⟨h, Int.le_refl _, fun x hx => by cases hx⟩
  | s :: l, a, h, hok, hl => by
    have h1 := hl s (List.mem_cons_self ..)
    obtain ⟨m, rfl⟩ : ∃ m : Nat, s = m := ⟨s.toNat, by omega⟩
    obtain ⟨p1, p2, p3⟩ := came_al h hok hv (show m < n by omega)
    obtain ⟨q1, q2, q3⟩ := comes_al hv l _ p1 (hok.came hv (show m < n by omega)) (fun x hx => hl x (List.mem_cons_of_mem _ hx))
    refine ⟨q1, Int.le_trans q2 p2, fun x hx hx0 => ?_⟩
    rcases List.mem_cons.1 hx with rfl | hx
    · exact Int.le_trans q2 (p3 (by omega))
    · exact q3 x hx hx0
theorem wait_al {a : Ab} {n M v0 parent u : Nat} (h : AL a n v0) (hok : a.ok n M) (hu : u < n) (hp : parent < u) : AL (Ab.wait parent a u) n v0 := by
  obtain ⟨h1, h2, h3⟩ := h.fl.least hok.f hu
  refine ⟨h1, fun x hx => ?_, fun x hx => ?_, h.wait⟩
  · show gi (a.f.least u).2.entry x ≤ _
    rw [least_entry]
    exact h.ent x hx
  · show gi (a.out.set (u : Int).toNat _) x < _ ∨ gi (a.out.set (u : Int).toNat _) x = 0
    rw [Int.toNat_natCast, gi_set (by rw [hok.ol]; exact hu) _ _ (by omega)]
    split
    · left
      split
      · rename_i hlt
        rw [least_entry] at hlt
        have : (a.f.least u).1 ≠ (u : Int) := fun e => by rw [e] at hlt; omega
        omega
      · omega
    · exact h.out x hx
theorem waits_al {n M v0 parent : Nat} (hpn : parent < n) : ∀ (l : List Int) (a : Ab), AL a n v0 → a.ok n M → (∀ x ∈ l, (parent : Int) < x ∧ x < (n : Int)) → AL (l.foldl (Ab.wait parent) a) n v0 ∧ (l.foldl (Ab.wait parent) a).ok n M
  | [], a, h, hok, _ => ⟨h, hok⟩
  | s :: l, a, h, hok, hl => by
    have h1 := hl s (List.mem_cons_self ..)
    obtain ⟨m, rfl⟩ : ∃ m : Nat, s = m := ⟨s.toNat, by omega⟩
    exact waits_al hpn l _ (wait_al h hok (by omega) (by omega)) (hok.wait hpn (show m < n by omega)) (fun x hx => hl x (List.mem_cons_of_mem _ hx))
theorem gr_set {l : List (List Int)} {i : Nat} (hi : i < l.length) (r : List Int) (e : Nat) : gr (l.set i r) e = if e = i then r else gr l e := by
  unfold gr
  rw [Int.toNat_natCast, List.getD_eq_getElem?_getD, List.getD_eq_getElem?_getD]
  by_cases h : e = i
  · subst h; rw [if_pos rfl, List.getElem?_set_self hi]; rfl
  · rw [if_neg h, List.getElem?_set_ne (fun e2 => h e2.symm)]
/-- What above asks of the walk. -/
structure Wk.fit (w : Wk) : Prop where
  par : ∀ v : Nat, 0 < v → v < w.par.length → 0 ≤ gi w.par v ∧ gi w.par v < (v : Int) ∧ gi w.par v ∈ gr w.ins v
  ins : ∀ v : Nat, ∀ x ∈ gr w.ins v, 0 ≤ x ∧ x < (w.par.length : Int)
theorem round_al {w : Wk} {a : Ab} {n M v : Nat} (hw : w.fit) (hn : w.par.length = n) (h : AL a n v) (hok : a.ok n M) (h0 : 0 < v) (hv : v < n) : AL (Ab.round w a v) n (v - 1) ∧ (Ab.round w a v).ok n (M + 1) := by
  obtain ⟨p0, p1, p2⟩ := hw.par v h0 (by omega)
  obtain ⟨p, hp⟩ : ∃ p : Nat, gi w.par v = p := ⟨(gi w.par v).toNat, by omega⟩
  rw [hp] at p0 p1 p2
  have hpn : p < n := by omega
  have hins : ∀ x ∈ gr w.ins v, 0 ≤ x ∧ x < (n : Int) := fun x hx => by have := hw.ins v x hx; omega
  obtain ⟨c1, c2, c3⟩ := comes_al hv (gr w.ins v) a h hok hins
  have hok1 : ((gr w.ins v).foldl (Ab.came v) a).ok n M := Ab.ok.folds (fun b x hb hx => hb.came hv hx) _ a hok hins
  have he := c3 p p2 (by omega)
  unfold Ab.round
  dsimp only
  rw [hp]
  generalize (gr w.ins v).foldl (Ab.came v) a = a1 at *
  have e0 := hok1.f.ein _ (gi_mem (v := v) (by rw [hok1.f.el]; exact hv))
  obtain ⟨e, hee⟩ : ∃ e : Nat, gi a1.f.entry v = e := ⟨(gi a1.f.entry v).toNat, by omega⟩
  rw [hee] at he e0 ⊢
  rw [Int.toNat_natCast]
  have hen : e < n := by omega
  have hlay := hok1.lay hv hen
  have hl1 : AL ⟨a1.f, a1.out, a1.waiting.set e (gr a1.waiting e ++ [(v : Int)])⟩ n v := by
    refine ⟨c1.fl, c1.ent, c1.out, fun k u hu => ?_⟩
    dsimp only at hu
    rw [gr_set (by rw [hok1.wl]; exact hen)] at hu
    split at hu
    · rename_i ek
      subst ek
      rcases List.mem_append.1 hu with hu | hu
      · exact c1.wait k u hu
      · obtain rfl := List.mem_singleton.1 hu; omega
    · exact c1.wait k u hu
  generalize a1.waiting.set e (gr a1.waiting e ++ [(v : Int)]) = wt at *
  have hok2 := hlay.hang hv (show p < v by omega)
  have hl2 : AL ⟨⟨a1.f.hangs.set v (p : Int), a1.f.entry, a1.f.best⟩, a1.out, wt⟩ n (v - 1) := by
    have hgs : ∀ x : Nat, gi (a1.f.hangs.set v (p : Int)) x = if x = v then (p : Int) else gi a1.f.hangs x := by
      intro x
      rw [gi_set (by rw [hok1.f.hl]; exact hv) _ _ (by omega)]
      by_cases ex : x = v
      · rw [if_pos (by omega), if_pos ex]
      · rw [if_neg (by omega), if_neg ex]
    refine ⟨⟨by dsimp only; rw [List.length_set]; exact c1.fl.hl, c1.fl.bl, fun x hx => ?_, c1.fl.lo, fun x hx hxn => ?_⟩, c1.ent, c1.out, hl1.wait⟩
    · dsimp only
      rw [hgs]
      split
      · right; omega
      · exact c1.fl.hang x hx
    · dsimp only
      rw [hgs, if_neg (by omega)]
      exact c1.fl.free x (by omega) hxn
  have hwl : ∀ x ∈ gr wt p, (p : Int) < x ∧ x < (n : Int) := fun x hx => by
    refine ⟨hl1.wait p x hx, ?_⟩
    have hmem : gr wt p ∈ wt := by
      unfold gr
      rw [Int.toNat_natCast, List.getD_eq_getElem?_getD, List.getElem?_eq_getElem (by rw [hlay.wl]; exact hpn)]
      exact List.getElem_mem _
    exact (hlay.win _ hmem x hx).2
  obtain ⟨d1, d2⟩ := waits_al hpn (gr wt p) _ hl2 hok2 hwl
  refine ⟨⟨d1.fl, d1.ent, d1.out, fun k u hu => ?_⟩, d2.drop p⟩
  dsimp only at hu
  rw [Int.toNat_natCast, gr_set (by rw [d2.wl]; exact hpn)] at hu
  split at hu
  · cases hu
  · exact d1.wait k u hu
theorem rounds_al {w : Wk} {n : Nat} (hw : w.fit) (hn : w.par.length = n) : ∀ (k : Nat) (a : Ab) (M : Nat), k + 1 ≤ n → AL a n k → a.ok n M → AL ((down (k + 1)).foldl (Ab.round w) a) n 0 ∧ ((down (k + 1)).foldl (Ab.round w) a).ok n (M + k)
  | 0, a, M, _, h, hok => ⟨h, hok⟩
  | k + 1, a, M, hk, h, hok => by
    rw [down_succ, List.foldl_cons]
    obtain ⟨p1, p2⟩ := round_al hw hn h hok (by omega) (by omega)
    have := rounds_al hw hn k _ (M + 1) (by omega) p1 p2
    rw [show M + (k + 1) = M + 1 + k by omega]
    exact this
theorem last_low {n : Nat} (f : Fn) : ∀ (l : List Nat) (out : List Int), (∀ v ∈ l, 0 < v ∧ v < n) → out.length = n → (∀ x ∈ out, 0 ≤ x) → (∀ x : Nat, x < n → gi out x < (x : Int) ∨ gi out x = 0) → (l.foldl (Ab.last f) out).length = n ∧ (∀ x ∈ l.foldl (Ab.last f) out, 0 ≤ x) ∧ (∀ x : Nat, x < n → gi (l.foldl (Ab.last f) out) x < (x : Int) ∨ gi (l.foldl (Ab.last f) out) x = 0)
  | [], out, _, h1, h2, h3 => ⟨h1, h2, h3⟩
  | v :: l, out, hl, h1, h2, h3 => by
    obtain ⟨v0, vn⟩ := hl v (List.mem_cons_self ..)
    rw [List.foldl_cons]
    have ho := h2 _ (gi_mem (v := v) (by omega))
    obtain ⟨o, hoe⟩ : ∃ o : Nat, gi out v = o := ⟨(gi out v).toNat, by omega⟩
    have hov : o < v := by
      have := h3 v vn
      omega
    have hoo := h2 _ (gi_mem (v := o) (by omega))
    have ho3 := h3 o (by omega)
    refine last_low f l _ (fun x hx => hl x (List.mem_cons_of_mem _ hx)) ?_ ?_ ?_
    · unfold Ab.last
      split
      · rw [List.length_set]; exact h1
      · exact h1
    · unfold Ab.last
      split
      · rw [hoe]; exact mem_set (P := fun x => 0 ≤ x) h2 v hoo
      · exact h2
    · intro x hx
      unfold Ab.last
      split
      · rw [gi_set (by omega) _ _ (by omega), hoe]
        split
        · rename_i ex
          left
          omega
        · exact h3 x hx
      · exact h3 x hx
theorem low_above {w : Wk} (hw : w.fit) (h0 : 0 < w.par.length) : Low (aboveL w) w.par.length := by
  unfold aboveL
  dsimp only
  generalize hn : w.par.length = n at *
  obtain ⟨k, rfl⟩ : ∃ k, n = k + 1 := ⟨n - 1, by omega⟩
  have hfl : FL (Fn.new (k + 1)) (k + 1) k := by
    have hh : ∀ v : Nat, v < k + 1 → gi (Fn.new (k + 1)).hangs v = -1 := by
      intro v hv
      unfold Fn.new gi
      dsimp only
      rw [Int.toNat_natCast, List.getD_eq_getElem?_getD, List.getElem?_replicate, if_pos hv]; rfl
    have hb : ∀ v : Nat, v < k + 1 → gi (Fn.new (k + 1)).best v = v := by
      intro v hv
      unfold Fn.new upto gi
      dsimp only
      rw [Int.toNat_natCast, List.getD_eq_getElem?_getD, List.getElem?_map, List.getElem?_range hv]; rfl
    exact ⟨by simp [Fn.new], by simp [Fn.new, upto], fun v hv => .inl (hh v hv), fun v hv => by rw [hb v hv]; exact Int.le_refl _, fun v _ hv => hh v hv⟩
  have hal : AL ⟨Fn.new (k + 1), List.replicate (k + 1) 0, List.replicate (k + 1) []⟩ (k + 1) k := by
    refine ⟨hfl, fun x hx => ?_, fun x hx => .inr ?_, fun e u hu => ?_⟩
    · unfold Fn.new upto gi
      dsimp only
      rw [Int.toNat_natCast, List.getD_eq_getElem?_getD, List.getElem?_map, List.getElem?_range hx]; exact Int.le_refl _
    · unfold gi
      dsimp only
      rw [Int.toNat_natCast, List.getD_eq_getElem?_getD, List.getElem?_replicate, if_pos hx]; rfl
    · dsimp only at hu
      unfold gr at hu
      rw [Int.toNat_natCast, List.getD_eq_getElem?_getD, List.getElem?_replicate] at hu
      split at hu <;> cases hu
  obtain ⟨r1, r2⟩ := rounds_al hw hn k _ 0 (Nat.le_refl _) hal (Ab.new_ok (by omega))
  obtain ⟨l1, l2, l3⟩ := last_low (n := k + 1) ((down (k + 1)).foldl (Ab.round w) ⟨Fn.new (k + 1), List.replicate (k + 1) 0, List.replicate (k + 1) []⟩).f ((List.range (k + 1)).drop 1) _ (fun v hv => by
    obtain ⟨i, hi⟩ := List.mem_iff_getElem?.1 hv
    rw [List.getElem?_drop] at hi
    have h2 := List.getElem?_eq_some_iff.1 hi
    obtain ⟨h3, h4⟩ := h2
    rw [List.getElem_range] at h4
    rw [List.length_range] at h3
    omega) r2.ol (fun x hx => (r2.oin x hx).1) r1.out
  refine ⟨l1, fun v h0 hv => ?_⟩
  have h4 := l2 _ (gi_mem (v := v) (by rw [l1]; exact hv))
  have h5 := l3 v hv
  omega
end Go.Proofs.Ytipongpgmbhpkaa
