/-
  The checker: block.
-/
import Derived.Test.YtffgioifjdpajaaGreatDoorChkI
namespace Go.Proofs.YtffgioifjdpajaaGreatDoor
open Go.ChangeShapes Go.WideShapes Go.ChangeAt Go.RowKit
set_option linter.unusedVariables false

mutual
/-- No name is longer than a text may be. -/
def Sm.fit : Sm → Bool
  | .mk _ _ _ name es thn els => decide (name.length ≤ 65536) && Ex.shorts es && Sm.fits thn && Sm.fits els
def Sm.fits : List Sm → Bool
  | [] => true
  | s :: r => s.fit && Sm.fits r
end
mutual
/-- How many times a statement may write into the locals. -/
def Sm.grow : Sm → Nat
  | .mk _ _ _ _ _ thn els => 1 + Sm.grows thn + Sm.grows els
def Sm.grows : List Sm → Nat
  | [] => 0
  | s :: r => s.grow + 1 + Sm.grows r
end
theorem Sm.fits_at : ∀ {l : List Sm}, Sm.fits l = true → ∀ i (h : i < l.length), (l[i]).fit = true
  | [], _, i, h => by simp at h
  | e :: r, hs, 0, h => by simp [Sm.fits] at hs; exact hs.1
  | e :: r, hs, i + 1, h => by simp [Sm.fits] at hs; exact Sm.fits_at hs.2 i (by simpa using h)
theorem Sm.grows_at : ∀ {l : List Sm} (i : Nat) (h : i < l.length), (l[i]).grow + 1 ≤ Sm.grows l
  | [], i, h => by simp at h
  | e :: r, 0, h => by simp only [Sm.grows, List.getElem_cons_zero]; omega
  | e :: r, i + 1, h => by
    have := Sm.grows_at (l := r) i (by simpa using h)
    simp only [Sm.grows, List.getElem_cons_succ]; omega
theorem lets_len : ∀ l : List Sm, (letsOf l).length ≤ l.length
  | [] => Nat.le_refl _
  | .mk does _ _ _ _ _ _ :: r => by
    have := lets_len r
    rw [letsOf]; split
    · simp; omega
    · simp; omega
theorem look_none {m : NMap} {x y : List UInt8} {t : Int} (h : look ((x, none) :: m) y = some t) : look m y = some t := by
  simp only [look] at h
  split at h
  · cases h
  · exact h
theorem drops_ok : ∀ (xs : List (List UInt8)) (k : Ck), (k.drops xs).lm.length = k.lm.length + xs.length ∧ (Typed k → Typed (k.drops xs))
  | [], k => ⟨rfl, id⟩
  | x :: r, k => by
    obtain ⟨h1, h2⟩ := drops_ok r { k with lm := forget k.lm x }
    rw [Ck.drops]
    refine ⟨by rw [h1]; simp [forget]; omega, fun ht => h2 (fun y t hy => ht y t (look_none hy))⟩
theorem part_same (es : List Ex) (i : Nat) (t l c : Int) (k : Ck) : SameK k (ckPart es i t l c k) := by
  unfold ckPart; split
  · exact (same_expr _ k).trans (same_unless _ _ _ _ _)
  · exact same_fail _ _ _ _
/-- What a statement may do to the locals. -/
def Grown (k k' : Ck) (n : Nat) : Prop := (Typed k → Typed k') ∧ k'.lm.length ≤ k.lm.length + n
theorem Grown.same {k k' : Ck} (h : SameK k k') (n : Nat) : Grown k k' n := ⟨fun t => t.same h, by rw [h.2.2.2.2]; omega⟩
theorem Grown.trans {a b c : Ck} {n m : Nat} (h : Grown a b n) (i : Grown b c m) : Grown a c (n + m) := ⟨fun t => i.1 (h.1 t), by have := h.2; have := i.2; omega⟩
theorem Grown.more {a b : Ck} {n m : Nat} (h : Grown a b n) (hm : n ≤ m) : Grown a b m := ⟨h.1, by have := h.2; omega⟩
theorem let_grown (l c : Int) (name : List UInt8) (es : List Ex) (k : Ck) : Grown k (ckLet l c name es k) 1 := by
  unfold ckLet; split
  · exact .same (same_fail _ _ _ _) _
  · rename_i e _
    have hs := (same_expr e k).trans (same_unless (ckExpr e k).2 (!(ckExpr e k).2.known name) 20 l c)
    refine ⟨fun ht x t hx => ?_, by simp only [List.length_cons]; rw [hs.2.2.2.2]; omega⟩
    simp only [look] at hx
    split at hx
    · cases hx; exact type_expr ht e
    · exact (ht.same hs) x t hx
theorem drops_grown (k : Ck) (l : List Sm) : Grown k (k.drops (letsOf l)) l.length := ⟨(drops_ok _ k).2, by have := (drops_ok (letsOf l) k).1; have := lets_len l; omega⟩
mutual
theorem stmt_grown : ∀ (s : Sm) (k : Ck), Grown k (ckStmt s k) s.grow
  | .mk does l c name es thn els, k => by
    rw [ckStmt, Sm.grow]
    have hb : ∀ (k1 : Ck), Grown k1 ((ckStmts els ((ckStmts thn k1).drops (letsOf thn))).drops (letsOf els)) (1 + Sm.grows thn + Sm.grows els) := fun k1 => by
      have h1 := stmts_grown thn k1
      have h2 := drops_grown (ckStmts thn k1) thn
      have h3 := stmts_grown els ((ckStmts thn k1).drops (letsOf thn))
      have h4 := drops_grown (ckStmts els ((ckStmts thn k1).drops (letsOf thn))) els
      refine ⟨fun t => h4.1 (h3.1 (h2.1 (h1.1 t))), ?_⟩
      have e1 := h1.2; have e2 := h2.2; have e3 := h3.2; have e4 := h4.2
      have g1 := grows_len thn; have g2 := grows_len els
      omega
    repeat' split
    · exact (let_grown _ _ _ _ _).more (by omega)
    · exact .same ((same_unless _ _ _ _ _).trans (part_same _ _ _ _ _ _)) _
    · exact .same (((same_unless _ _ _ _ _).trans (part_same _ _ _ _ _ _)).trans (part_same _ _ _ _ _ _)) _
    · have h0 := Grown.same (part_same es 0 2 l c k) 0
      have := h0.trans (hb (ckPart es 0 2 l c k))
      exact this.more (by omega)
    · exact .same (part_same _ _ _ _ _ _) _
    · exact .same (same_fail _ _ _ _) _
/-- without what is dropped at the block's end -/
theorem stmts_grown : ∀ (l : List Sm) (k : Ck), Grown k (ckStmts l k) (Sm.grows l - l.length)
  | [], k => by rw [ckStmts]; exact .same (.refl k) _
  | s :: r, k => by
    rw [ckStmts]
    have h := (stmt_grown s k).trans (stmts_grown r (ckStmt s k))
    refine h.more ?_
    have := grows_len r
    simp only [Sm.grows, List.length_cons]; omega
theorem grows_len : ∀ l : List Sm, l.length ≤ Sm.grows l
  | [] => Nat.le_refl _
  | s :: r => by have := grows_len r; simp only [Sm.grows, List.length_cons]; omega
end
theorem block_grown (l : List Sm) (k : Ck) : Grown k (ckBlock l k) (Sm.grows l) := by
  have := (stmts_grown l k).trans (drops_grown (ckStmts l k) l)
  have h := grows_len l
  exact this.more (by omega)
def stAt (l : List Sm) (i : Nat) (k : Ck) : Ck := ckStmts (l.take i) k
theorem ckStmts_snoc : ∀ (l : List Sm) (s : Sm) (k : Ck), ckStmts (l ++ [s]) k = ckStmt s (ckStmts l k)
  | [], s, k => by simp [ckStmts]
  | a :: l, s, k => by simp only [List.cons_append, ckStmts]; exact ckStmts_snoc l s _
theorem stAt_succ {l : List Sm} {i : Nat} (h : i < l.length) (k : Ck) : stAt l (i + 1) k = ckStmt l[i] (stAt l i k) := by
  unfold stAt; rw [List.take_succ_eq_append_getElem h, ckStmts_snoc]
theorem stAt_all (l : List Sm) (k : Ck) : stAt l l.length k = ckStmts l k := by unfold stAt; rw [List.take_length]
end Go.Proofs.YtffgioifjdpajaaGreatDoor
