/-
  dom: least, as a function of lists: it ends, and what it leaves is well formed.
-/
import Derived.Test.YtipongpgmbhpkaaDomF
namespace Go.Proofs.Ytipongpgmbhpkaa
set_option linter.unusedVariables false

/-- It hangs on something that hangs on something. -/
def Fn.deep (f : Fn) (u : Int) : Prop := gi f.hangs u ≠ -1 ∧ gi f.hangs (gi f.hangs u) ≠ -1
theorem gi_set {l : List Int} {u : Nat} (hu : u < l.length) (x : Int) (v : Int) (hv : 0 ≤ v) : gi (l.set u x) v = if v = (u : Int) then x else gi l v := by
  obtain ⟨m, rfl⟩ : ∃ m : Nat, v = m := ⟨v.toNat, by omega⟩
  unfold gi
  rw [Int.toNat_natCast, List.getD_eq_getElem?_getD, List.getD_eq_getElem?_getD]
  by_cases h : u = m
  · subst h
    rw [List.getElem?_set_self hu, if_pos rfl]; rfl
  · rw [List.getElem?_set_ne h, if_neg (by omega)]
/-- What hangs goes on to hang. -/
theorem Fn.ok.hung {f : Fn} {n : Nat} (h : f.ok n) {u : Nat} (hu : u < n) (hd : f.deep u) {v : Int} (hv : 0 ≤ v) (hh : gi f.hangs v ≠ -1) : gi (f.short u).hangs v ≠ -1 := by
  unfold Fn.short
  dsimp only
  rw [Int.toNat_natCast, gi_set (by rw [h.hl]; exact hu) _ _ hv]
  split
  · exact hd.2
  · exact hh
theorem Fn.ok.deeps {f : Fn} {n : Nat} (h : f.ok n) {u : Nat} (hu : u < n) (hd : f.deep u) {v : Nat} (hv : v < n) (hne : v ≠ u) (hdv : f.deep v) : (f.short u).deep v := by
  refine ⟨h.hung hu hd (by omega) hdv.1, ?_⟩
  have e : gi (f.short u).hangs v = gi f.hangs v := by
    unfold Fn.short
    dsimp only
    rw [Int.toNat_natCast, gi_set (by rw [h.hl]; exact hu) _ _ (by omega), if_neg (by omega)]
  rw [e]
  rcases h.at hv with e1 | ⟨a, b⟩
  · exact absurd e1 hdv.1
  · exact h.hung hu hd a hdv.2
theorem Fn.ok.shorts {n : Nat} : ∀ (l : List Int) (f : Fn), f.ok n → l.Nodup → (∀ u ∈ l, (0 ≤ u ∧ u < (n : Int)) ∧ f.deep u) → (f.shorts l).ok n
  | [], _, h, _, _ => h
  | u :: us, f, h, hnd, hl => by
    obtain ⟨⟨h1, h2⟩, hd⟩ := hl u (List.mem_cons_self ..)
    obtain ⟨m, rfl⟩ : ∃ m : Nat, u = m := ⟨u.toNat, by omega⟩
    rw [List.nodup_cons] at hnd
    refine Fn.ok.shorts us (f.short m) (h.short (by omega) hd.1 hd.2) hnd.2 (fun v hv => ?_)
    obtain ⟨⟨h3, h4⟩, hdv⟩ := hl v (List.mem_cons_of_mem _ hv)
    obtain ⟨k, rfl⟩ : ∃ k : Nat, v = k := ⟨v.toNat, by omega⟩
    exact ⟨⟨h3, h4⟩, h.deeps (by omega) hd (by omega) (fun e => hnd.1 (by rw [← e]; exact hv)) hdv⟩
/-- The way up: deep ones, each less than that ahead of it. -/
theorem Fn.ok.way {f : Fn} {n : Nat} (h : f.ok n) : ∀ (k : Nat) (u : Nat), u < n → gi f.hangs u ≠ -1 → (∀ v ∈ f.way k u, (0 ≤ v ∧ v < (n : Int)) ∧ f.deep v ∧ v ≤ (u : Int)) ∧ (f.way k u).Pairwise (fun a b => b < a)
  | 0, _, _, _ => ⟨fun v hv => by simp [Fn.way] at hv, by simp [Fn.way]⟩
  | k + 1, u, hu, hh => by
    unfold Fn.way
    split
    · exact ⟨fun v hv => by simp at hv, by simp⟩
    · rename_i hn
      rcases h.at hu with e | ⟨a, b⟩
      · exact absurd e hh
      obtain ⟨o, ho⟩ : ∃ o : Nat, gi f.hangs u = o := ⟨(gi f.hangs u).toNat, by omega⟩
      have hdu : f.deep u := ⟨hh, hn⟩
      rw [ho] at a b hn ⊢
      obtain ⟨i1, i2⟩ := Fn.ok.way h k o (by omega) hn
      refine ⟨fun v hv => ?_, ?_⟩
      · rcases List.mem_cons.1 hv with rfl | hv
        · exact ⟨⟨by omega, by omega⟩, hdu, by omega⟩
        · obtain ⟨j1, j2, j3⟩ := i1 v hv
          exact ⟨j1, j2, by omega⟩
      · rw [List.pairwise_cons]
        exact ⟨fun v hv => by have := (i1 v hv).2.2; omega, i2⟩
/-- No more is needed than the number's own size. -/
theorem Fn.ok.way_more {f : Fn} {n : Nat} (h : f.ok n) : ∀ (k k' u : Nat), u < n → gi f.hangs u ≠ -1 → u < k → u < k' → f.way k u = f.way k' u
  | 0, _, _, _, _, h1, _ => by omega
  | _, 0, _, _, _, _, h2 => by omega
  | k + 1, k' + 1, u, hu, hh, h1, h2 => by
    unfold Fn.way
    split
    · rfl
    · rename_i hn
      rcases h.at hu with e | ⟨a, b⟩
      · exact absurd e hh
      obtain ⟨o, ho⟩ : ∃ o : Nat, gi f.hangs u = o := ⟨(gi f.hangs u).toNat, by omega⟩
      rw [ho] at a b hn ⊢
      rw [Fn.ok.way_more h k k' o (by omega) hn (by omega) (by omega)]
theorem Fn.ok.least {f : Fn} {n : Nat} (h : f.ok n) {v : Nat} (hv : v < n) : (f.least v).2.ok n ∧ 0 ≤ (f.least v).1 ∧ (f.least v).1 < (n : Int) := by
  unfold Fn.least
  split
  · exact ⟨h, by simp, by simp; omega⟩
  · rename_i hh
    obtain ⟨i1, i2⟩ := h.way f.hangs.length v hv hh
    have hg : (f.shorts (f.way f.hangs.length v).reverse).ok n := by
      refine Fn.ok.shorts _ f h ?_ (fun u hu => ?_)
      · unfold List.Nodup
        rw [List.pairwise_reverse]
        exact i2.imp (fun hab e => by omega)
      · obtain ⟨j1, j2, _⟩ := i1 u (List.mem_reverse.1 hu)
        exact ⟨j1, j2⟩
    exact ⟨hg, hg.bin _ (gi_mem (by rw [hg.bl]; exact hv))⟩
end Go.Proofs.Ytipongpgmbhpkaa
