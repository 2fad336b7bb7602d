/-
  Pieces of a text, one behind the other: what the lexer makes of them.
-/
import Derived.Test.YteapdemofkmonaaDoorNumMath
import Derived.KernelRfl
namespace Go.Proofs.YteapdemofkmonaaDoor
open Go.ChangeShapes Go.WideShapes Go.ChangeAt Go.RowKit
set_option linter.unusedVariables false

/-- Line and column behind bytes. -/
def posFrom (line col : Int) (l : List UInt8) : Int × Int := l.foldl (fun p c => (lineB p.1 c, colB p.2 c)) (line, col)
theorem posFrom_snoc (line col : Int) (l : List UInt8) (c : UInt8) : posFrom line col (l ++ [c]) = (lineB (posFrom line col l).1 c, colB (posFrom line col l).2 c) := by
  unfold posFrom; rw [List.foldl_append]; rfl
theorem posFrom_append (line col : Int) (x y : List UInt8) : posFrom line col (x ++ y) = posFrom (posFrom line col x).1 (posFrom line col x).2 y := by
  unfold posFrom; rw [List.foldl_append]
theorem goL_over : ∀ (l rest : List UInt8) (line col : Int) (acc : List Tok), goL (l ++ rest) l.length line col acc = goL rest 0 (posFrom line col l).1 (posFrom line col l).2 acc
  | [], _, _, _, _ => rfl
  | c :: r, rest, line, col, acc => by
    show goL (c :: (r ++ rest)) (r.length + 1) line col acc = _
    rw [goL, goL_over r rest]
    rfl
/-- What may follow a token of any kind: nothing, or a blank. -/
def Calm (l : List UInt8) : Prop := l = [] ∨ ∃ c r, l = c :: r ∧ blankB (c.toNat : Int) = true
/-- A token that is read as it stands, whatever calm thing follows. -/
def TokOk (x : List UInt8) (k : Int) (v : Int) : Prop := x ≠ [] ∧ ∀ rest, Calm rest → gapL (x ++ rest) = 0 ∧ tokL (x ++ rest) = ⟨0, x.length, k, v⟩
theorem TokOk.go {x : List UInt8} {k v : Int} (h : TokOk x k v) (rest : List UInt8) (hr : Calm rest) (line col : Int) (acc : List Tok) :
    goL (x ++ rest) 0 line col acc = goL rest 0 (posFrom line col x).1 (posFrom line col x).2 (acc ++ [⟨k, x, v, line, col⟩]) := by
  obtain ⟨hne, h2⟩ := h
  obtain ⟨hg, ht⟩ := h2 rest hr
  cases x with
  | nil => exact absurd rfl hne
  | cons c r =>
    show goL (c :: (r ++ rest)) 0 line col acc = _
    rw [show c :: r ++ rest = c :: (r ++ rest) from rfl] at hg ht
    rw [goL, if_pos hg, ht, if_pos rfl]
    show goL (r ++ rest) ((c :: r).length - 1) _ _ (acc ++ [⟨k, (c :: (r ++ rest)).take (c :: r).length, v, line, col⟩]) = _
    rw [show (c :: (r ++ rest)).take (c :: r).length = c :: r from List.take_left (l₁ := c :: r) (l₂ := rest), List.length_cons, Nat.add_sub_cancel, goL_over]
    rfl
theorem span_to (p : Int → Bool) (hp : ∀ c : Int, blankB c = true → p c = false) : ∀ (x rest : List UInt8), (∀ c ∈ x, p (c.toNat : Int) = true) → Calm rest → spanL p (x ++ rest) = x.length
  | [], rest, _, hr => by
    rcases hr with rfl | ⟨c, r, rfl, hb⟩
    · rfl
    · show spanL p (c :: r) = 0
      rw [spanL, if_neg (by rw [hp _ hb]; simp)]
  | c :: x, rest, h, hr => by
    show spanL p (c :: (x ++ rest)) = _
    rw [spanL, if_pos (h c (List.mem_cons_self ..)), span_to p hp x rest (fun y hy => h y (List.mem_cons_of_mem _ hy)) hr, List.length_cons]
theorem blank_cases {c : Int} (h : blankB c = true) : c = 32 ∨ c = 9 ∨ c = 10 ∨ c = 13 := by simpa [blankB, or_assoc] using h
theorem digit_blank (c : Int) (h : blankB c = true) : digitB c = false := by
  rcases blank_cases h with rfl | rfl | rfl | rfl <;> decide
theorem name_blank (c : Int) (h : blankB c = true) : inNameB c = false := by
  rcases blank_cases h with rfl | rfl | rfl | rfl <;> decide
theorem gap_zero {c : UInt8} {r : List UInt8} (h1 : blankB (c.toNat : Int) = false) (h2 : Lib.hasPrefix (c :: r) [47, 47] = false) : gapL (c :: r) = 0 := by
  unfold gapL
  simp only [h1, h2, Bool.false_eq_true, if_false]
theorem no_prefix {c : UInt8} {r : List UInt8} (h : c ≠ 47) : Lib.hasPrefix (c :: r) [47, 47] = false := by
  have h' : ¬ 47 = c := fun e => h e.symm
  simp [Lib.hasPrefix, List.isPrefixOf, h']
/-- Digits. -/
theorem tok_digits (n : Nat) (hn : n ≤ 65535) : TokOk (Lib.decDigits n) 2 n := by
  obtain ⟨hd, hv⟩ := dval_dec n n (Nat.le_refl _) 0
  have hne : Lib.decDigits n ≠ [] := by
    intro e
    have h1 := Lib.decDigits_length n
    rw [e] at h1
    have := Lib.nDigits_pos n
    simp at h1; omega
  refine ⟨hne, fun rest hr => ?_⟩
  have hs := span_to digitB digit_blank (Lib.decDigits n) rest (fun c hc => (dig_is (hd c hc)).1) hr
  have hnum : numL 0 (Lib.decDigits n) = some (n : Int) := by rw [numL_eq _ 0 (by omega) (by omega) hd, hv, if_pos (by omega)]
  generalize Lib.decDigits n = x at *
  cases x with
  | nil => exact absurd rfl hne
  | cons c r =>
    obtain ⟨h1, h2, h3, h4, h5⟩ := dig_is (hd c (List.mem_cons_self ..))
    rw [show c :: r ++ rest = c :: (r ++ rest) from rfl] at hs ⊢
    refine ⟨gap_zero h3 (no_prefix h4), ?_⟩
    rw [tokL_some rfl h2 h1 (v := (n : Int)) (by rw [hs]; rw [show (c :: (r ++ rest)).take (c :: r).length = c :: r from List.take_left (l₁ := c :: r) (l₂ := rest)]; exact hnum), hs]
/-- Names and words. -/
theorem tok_name (x : List UInt8) (c : UInt8) (r : List UInt8) (e : x = c :: r) (hc : letterB (c.toNat : Int) = true) (hx : ∀ y ∈ x, inNameB (y.toNat : Int) = true) : TokOk x (if reservedB x then 3 else 1) 0 := by
  subst e
  refine ⟨by simp, fun rest hr => ?_⟩
  have hs := span_to inNameB name_blank (c :: r) rest hx hr
  rw [show c :: r ++ rest = c :: (r ++ rest) from rfl] at hs ⊢
  have hb : blankB (c.toNat : Int) = false := by
    cases hh : blankB (c.toNat : Int) with
    | false => rfl
    | true =>
      rcases blank_cases hh with e | e | e | e <;> (rw [e] at hc; revert hc; decide)
  have h47 : c ≠ 47 := by rintro rfl; revert hc; decide
  refine ⟨gap_zero hb (no_prefix h47), ?_⟩
  rw [tokL_letter rfl hc, hs, show (c :: (r ++ rest)).take (c :: r).length = c :: r from List.take_left (l₁ := c :: r) (l₂ := rest)]
def nameT (n : Nat) : List UInt8 := 120 :: (Lib.decDigits n ++ [95, 89])
theorem tok_nameT (n : Nat) : TokOk (nameT n) 1 0 := by
  have hd := (dval_dec n n (Nat.le_refl _) 0).1
  have h := tok_name (nameT n) 120 _ rfl (by decide) (by
    intro y hy
    rcases List.mem_cons.1 hy with rfl | hy
    · decide
    · rcases List.mem_append.1 hy with hy | hy
      · unfold inNameB
        rw [(dig_is (hd y hy)).1, Bool.or_true]
      · simp only [List.mem_cons, List.not_mem_nil, or_false] at hy
        rcases hy with rfl | rfl <;> decide)
  have hr : reservedB (nameT n) = false := by simp [reservedB, nameT]
  rw [hr] at h
  exact h
def wordsL : List (List UInt8) := [[101, 108, 115, 101], [102, 97, 108, 115, 101], [102, 117, 110, 99], [105, 102], [108, 101, 116], [112, 117, 98, 108, 105, 99], [114, 101, 116, 117, 114, 110], [115, 101, 99, 114, 101, 116], [116, 114, 117, 101], [118, 97, 114], [119, 104, 105, 108, 101]]
theorem tok_word (x : List UInt8) (hx : x ∈ wordsL) : TokOk x 3 0 := by
  have key : ∀ y ∈ wordsL, (y.all fun c => inNameB (c.toNat : Int)) = true ∧ reservedB y = true ∧ (match y with | [] => false | c :: _ => letterB (c.toNat : Int)) = true := by decide +kernel
  obtain ⟨h1, h2, h3⟩ := key x hx
  cases x with
  | nil => cases h3
  | cons c r =>
    have h := tok_name (c :: r) c r rfl h3 (fun y hy => List.all_eq_true.1 h1 y hy)
    rw [h2] at h
    exact h
def marksT : List (List UInt8) := [[38, 38], [124, 124], [61, 61], [33, 61], [60, 61], [62, 61], [60, 60], [62, 62], [43], [45], [42], [47], [37], [38], [124], [94], [60], [62], [61], [33], [40], [41], [123], [125], [91], [93], [44], [59]]
def isMark (x : List UInt8) : Bool := match x with
  | [a] => !blankB (a.toNat : Int) && !letterB (a.toNat : Int) && !digitB (a.toNat : Int) && singleB a && !doubleB [a] && !doubleB [a, 32] && !doubleB [a, 9] && !doubleB [a, 10] && !doubleB [a, 13]
  | [a, b] => !blankB (a.toNat : Int) && !letterB (a.toNat : Int) && !digitB (a.toNat : Int) && doubleB [a, b] && a != 47
  | _ => false
theorem marks_are : ∀ x ∈ marksT, isMark x = true := by decide +kernel
theorem u8_of {c : UInt8} {n : Nat} (h : (c.toNat : Int) = n) (hn : n < 256) : c = UInt8.ofNat n := by
  apply UInt8.toNat_inj.1
  rw [UInt8.toNat_ofNat']
  omega
theorem tok_mark (x : List UInt8) (hx : isMark x = true) : TokOk x 4 0 := by
  match x, hx with
  | [a], hx =>
    simp only [isMark, Bool.and_eq_true, Bool.not_eq_true'] at hx
    obtain ⟨⟨⟨⟨⟨⟨⟨⟨h1, h2⟩, h3⟩, h4⟩, h5⟩, h6⟩, h7⟩, h8⟩, h9⟩ := hx
    refine ⟨by simp, fun rest hr => ?_⟩
    show gapL (a :: rest) = 0 ∧ tokL (a :: rest) = _
    have hd : doubleB ((a :: rest).take 2) = false ∧ Lib.hasPrefix (a :: rest) [47, 47] = false := by
      rcases hr with rfl | ⟨c, r, rfl, hb⟩
      · exact ⟨h5, by simp [Lib.hasPrefix, List.isPrefixOf]⟩
      · rcases blank_cases hb with e | e | e | e
        · obtain rfl := u8_of (n := 32) e (by decide); exact ⟨h6, by simp [Lib.hasPrefix, List.isPrefixOf]⟩
        · obtain rfl := u8_of (n := 9) e (by decide); exact ⟨h7, by simp [Lib.hasPrefix, List.isPrefixOf]⟩
        · obtain rfl := u8_of (n := 10) e (by decide); exact ⟨h8, by simp [Lib.hasPrefix, List.isPrefixOf]⟩
        · obtain rfl := u8_of (n := 13) e (by decide); exact ⟨h9, by simp [Lib.hasPrefix, List.isPrefixOf]⟩
    have hm : markL (a :: rest) = 1 := by unfold markL; simp only [hd.1, h4, Bool.and_false, Bool.false_eq_true, if_false, if_true]
    refine ⟨gap_zero h1 hd.2, ?_⟩
    rw [tokL_mark rfl h2 h3 (by rw [hm]; decide), hm]
    rfl
  | [a, b], hx =>
    simp only [isMark, Bool.and_eq_true, Bool.not_eq_true', bne_iff_ne, ne_eq] at hx
    obtain ⟨⟨⟨⟨h1, h2⟩, h3⟩, h4⟩, h5⟩ := hx
    refine ⟨by simp, fun rest hr => ?_⟩
    show gapL (a :: (b :: rest)) = 0 ∧ tokL (a :: (b :: rest)) = _
    have hm : markL (a :: (b :: rest)) = 2 := by
      unfold markL
      have h6 : doubleB ((a :: (b :: rest)).take 2) = true := h4
      simp [h4]
    refine ⟨gap_zero h1 (no_prefix h5), ?_⟩
    rw [tokL_mark rfl h2 h3 (by rw [hm]; decide), hm]
    rfl
/-- What stands ahead of a token. -/
def GapOk (g : List UInt8) : Prop := (∃ c r, g = c :: r ∧ blankB (c.toNat : Int) = true) ∧ ∀ rest line col acc, goL (g ++ rest) 0 line col acc = goL rest 0 (posFrom line col g).1 (posFrom line col g).2 acc
def gapsT : List (List UInt8) := [[32], [10], [9, 32, 13, 10], [32, 47, 47, 32, 110, 111, 32, 116, 111, 107, 101, 110, 32, 38, 38, 32, 53, 10], [10, 47, 47, 10]]
theorem gap_blank {c : UInt8} (h : blankB (c.toNat : Int) = true) (rest : List UInt8) (line col : Int) (acc : List Tok) : goL (c :: rest) 0 line col acc = goL rest 0 (lineB line c) (colB col c) acc := by
  have hg : gapL (c :: rest) = 1 := by unfold gapL; simp only [h, if_true]
  rw [goL, hg, if_neg (by decide)]
theorem gap_line (x rest : List UInt8) (hx : ∀ c ∈ x, inLineB (c.toNat : Int) = true) (line col : Int) (acc : List Tok) : goL (47 :: 47 :: (x ++ 10 :: rest)) 0 line col acc = goL (10 :: rest) 0 (posFrom line col (47 :: 47 :: x)).1 (posFrom line col (47 :: 47 :: x)).2 acc := by
  have hsp : ∀ (y : List UInt8), (∀ c ∈ y, inLineB (c.toNat : Int) = true) → spanL inLineB (y ++ 10 :: rest) = y.length := by
    intro y
    induction y with
    | nil => intro _; show spanL inLineB (10 :: rest) = 0; rw [spanL, if_neg (by decide)]
    | cons c r ih => intro hy; show spanL inLineB (c :: (r ++ 10 :: rest)) = _; rw [spanL, if_pos (hy c (List.mem_cons_self ..)), ih (fun z hz => hy z (List.mem_cons_of_mem _ hz)), List.length_cons]
  have hg : gapL (47 :: 47 :: (x ++ 10 :: rest)) = x.length + 2 := by
    have h1 : blankB ((47 : UInt8).toNat : Int) = false := by decide
    have h2 : Lib.hasPrefix (47 :: 47 :: (x ++ 10 :: rest)) [47, 47] = true := by simp [Lib.hasPrefix, List.isPrefixOf]
    unfold gapL
    simp only [h1, h2, Bool.false_eq_true, if_false, if_true]
    have := hsp (47 :: 47 :: x) (by
      intro c hc
      simp only [List.mem_cons] at hc
      rcases hc with rfl | rfl | hc
      · decide
      · decide
      · exact hx c hc)
    simpa using this
  rw [goL, if_neg (by rw [hg]; omega), hg]
  show goL (47 :: (x ++ 10 :: rest)) (x.length + 1) _ _ acc = _
  have := goL_over (47 :: x) (10 :: rest) (lineB line 47) (colB col 47) acc
  simpa [posFrom] using this
theorem gap_ok : ∀ g ∈ gapsT, GapOk g := by
  intro g hg
  simp only [gapsT, List.mem_cons, List.not_mem_nil, or_false] at hg
  rcases hg with rfl | rfl | rfl | rfl | rfl
  · exact ⟨⟨_, _, rfl, by decide⟩, fun rest line col acc => gap_blank (by decide) rest line col acc⟩
  · exact ⟨⟨_, _, rfl, by decide⟩, fun rest line col acc => gap_blank (by decide) rest line col acc⟩
  · refine ⟨⟨_, _, rfl, by decide⟩, fun rest line col acc => ?_⟩
    show goL (9 :: 32 :: 13 :: 10 :: rest) 0 line col acc = _
    rw [gap_blank (by decide), gap_blank (by decide), gap_blank (by decide), gap_blank (by decide)]
    rfl
  · refine ⟨⟨_, _, rfl, by decide⟩, fun rest line col acc => ?_⟩
    show goL (32 :: 47 :: 47 :: ([32, 110, 111, 32, 116, 111, 107, 101, 110, 32, 38, 38, 32, 53] ++ 10 :: rest)) 0 line col acc = _
    rw [gap_blank (by decide), gap_line _ _ (by decide), gap_blank (by decide)]
    rfl
  · refine ⟨⟨_, _, rfl, by decide⟩, fun rest line col acc => ?_⟩
    show goL (10 :: 47 :: 47 :: ([] ++ 10 :: rest)) 0 line col acc = _
    rw [gap_blank (by decide), gap_line _ _ (by simp), gap_blank (by decide)]
    rfl
/-- A piece: what stands ahead, the token, its kind and number. -/
structure Pc where
  gap : List UInt8
  txt : List UInt8
  kind : Int
  num : Int
def Pc.ok (p : Pc) : Prop := GapOk p.gap ∧ TokOk p.txt p.kind p.num
def pcsT : List Pc → List UInt8
  | [] => []
  | p :: r => p.gap ++ p.txt ++ pcsT r
def pcsK : Int → Int → List Pc → List Tok
  | _, _, [] => []
  | line, col, p :: r => ⟨p.kind, p.txt, p.num, (posFrom line col p.gap).1, (posFrom line col p.gap).2⟩ :: pcsK (posFrom line col (p.gap ++ p.txt)).1 (posFrom line col (p.gap ++ p.txt)).2 r
theorem pcs_calm : ∀ l : List Pc, (∀ p ∈ l, p.ok) → Calm (pcsT l)
  | [], _ => .inl rfl
  | p :: r, h => by
    obtain ⟨⟨c, x, e, hb⟩, _⟩ := (h p (List.mem_cons_self ..)).1
    refine .inr ⟨c, x ++ p.txt ++ pcsT r, ?_, hb⟩
    rw [pcsT, e]; simp
theorem pcs_go : ∀ (l : List Pc) (line col : Int) (acc : List Tok), (∀ p ∈ l, p.ok) → goL (pcsT l) 0 line col acc = .ok (acc ++ pcsK line col l ++ [⟨0, [], 0, (posFrom line col (pcsT l)).1, (posFrom line col (pcsT l)).2⟩])
  | [], line, col, acc, _ => by rw [pcsT, goL, pcsK, List.append_nil]; rfl
  | p :: r, line, col, acc, h => by
    have hp := h p (List.mem_cons_self ..)
    have hr := fun q hq => h q (List.mem_cons_of_mem p hq)
    rw [pcsT, List.append_assoc, hp.1.2, hp.2.go _ (pcs_calm r hr), pcs_go r _ _ _ hr, pcsK]
    simp only [posFrom_append, List.append_assoc, List.cons_append, List.nil_append]
theorem pcsT_snoc : ∀ (l : List Pc) (p : Pc), pcsT (l ++ [p]) = pcsT l ++ p.gap ++ p.txt
  | [], p => by simp [pcsT]
  | q :: r, p => by
    show q.gap ++ q.txt ++ pcsT (r ++ [p]) = q.gap ++ q.txt ++ pcsT r ++ p.gap ++ p.txt
    rw [pcsT_snoc r p]; simp
theorem pcsK_snoc : ∀ (l : List Pc) (p : Pc) (line col : Int), pcsK line col (l ++ [p]) = pcsK line col l ++ [⟨p.kind, p.txt, p.num, (posFrom line col (pcsT l ++ p.gap)).1, (posFrom line col (pcsT l ++ p.gap)).2⟩]
  | [], p, line, col => rfl
  | q :: r, p, line, col => by
    show _ :: pcsK _ _ (r ++ [p]) = _ :: pcsK _ _ r ++ _
    rw [pcsK_snoc r p]
    rw [show pcsT (q :: r) ++ p.gap = (q.gap ++ q.txt) ++ (pcsT r ++ p.gap) by rw [pcsT]; simp, posFrom_append line col (q.gap ++ q.txt)]
    rfl
theorem pcs_lex (l : List Pc) (h : ∀ p ∈ l, p.ok) : lexL (pcsT l) = .ok (pcsK 1 1 l ++ [⟨0, [], 0, (posFrom 1 1 (pcsT l)).1, (posFrom 1 1 (pcsT l)).2⟩]) := by
  unfold lexL; rw [pcs_go l 1 1 [] h]; rfl
theorem pcsK_len : ∀ (l : List Pc) (line col : Int), (pcsK line col l).length = l.length
  | [], _, _ => rfl
  | p :: r, line, col => by rw [pcsK, List.length_cons, List.length_cons, pcsK_len r]
end Go.Proofs.YteapdemofkmonaaDoor
