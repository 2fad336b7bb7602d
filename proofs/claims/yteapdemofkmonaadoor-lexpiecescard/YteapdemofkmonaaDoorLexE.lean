/-
  The contract of the lexer's token: the first token of a text that is not empty.
-/
import Derived.Test.YteapdemofkmonaaDoorLexD
namespace Go.Proofs.YteapdemofkmonaaDoor
open Go.ChangeShapes Go.WideShapes Go.ChangeAt Go.RowKit
set_option linter.unusedVariables false

structure T0 where
  err : Int
  n : Nat
  kind : Int
  num : Int

/-- The first token of a text: its error, or its length, kind and number. -/
def tokL (l : List UInt8) : T0 :=
  match l with
  | [] => ⟨10, 0, 0, 0⟩
  | c :: r =>
    if letterB (c.toNat : Int) then ⟨0, spanL inNameB (c :: r), if reservedB ((c :: r).take (spanL inNameB (c :: r))) then 3 else 1, 0⟩
    else if digitB (c.toNat : Int) then
      match numL 0 ((c :: r).take (spanL digitB (c :: r))) with
      | none => ⟨11, 0, 0, 0⟩
      | some v => ⟨0, spanL digitB (c :: r), 2, v⟩
    else if 0 < markL (c :: r) then ⟨0, markL (c :: r), 4, 0⟩ else ⟨10, 0, 0, 0⟩

/-- What token answers. -/
def tokV (s : ByteArray) (t : T0) : Value :=
  .tuple #[.agg #[.int .i64 t.kind, .string (s.extract 0 t.n), .int .i64 t.num, .int .i64 0, .int .i64 0], .int .i64 t.err]

theorem tokL_letter {l : List UInt8} {c : UInt8} {r : List UInt8} (e : l = c :: r) (h : letterB (c.toNat : Int) = true) : tokL l = ⟨0, spanL inNameB l, if reservedB (l.take (spanL inNameB l)) then 3 else 1, 0⟩ := by
  subst e; simp only [tokL, h, if_true]
theorem tokL_none {l : List UInt8} {c : UInt8} {r : List UInt8} (e : l = c :: r) (h : letterB (c.toNat : Int) = false) (hd : digitB (c.toNat : Int) = true) (hn : numL 0 (l.take (spanL digitB l)) = none) : tokL l = ⟨11, 0, 0, 0⟩ := by
  subst e; simp only [tokL, h, hd, hn, if_true]; rfl
theorem tokL_some {l : List UInt8} {c : UInt8} {r : List UInt8} {v : Int} (e : l = c :: r) (h : letterB (c.toNat : Int) = false) (hd : digitB (c.toNat : Int) = true) (hn : numL 0 (l.take (spanL digitB l)) = some v) : tokL l = ⟨0, spanL digitB l, 2, v⟩ := by
  subst e; simp only [tokL, h, hd, hn, if_true]; rfl
theorem tokL_mark {l : List UInt8} {c : UInt8} {r : List UInt8} (e : l = c :: r) (h : letterB (c.toNat : Int) = false) (hd : digitB (c.toNat : Int) = false) (hm : 0 < markL l) : tokL l = ⟨0, markL l, 4, 0⟩ := by
  subst e; simp only [tokL, h, hd, if_pos hm]; rfl
theorem tokL_sign {l : List UInt8} {c : UInt8} {r : List UInt8} (e : l = c :: r) (h : letterB (c.toNat : Int) = false) (hd : digitB (c.toNat : Int) = false) (hm : ¬ 0 < markL l) : tokL l = ⟨10, 0, 0, 0⟩ := by
  subst e; simp only [tokL, h, hd, if_neg hm]; rfl

theorem extract_none (s : ByteArray) : s.extract 0 0 = ⟨#[]⟩ := by
  apply bytes_inj
  rw [Lib.extract_data]; simp
theorem spanL_pre (p : Int → Bool) : ∀ (l : List UInt8) (j : Nat) (h : j < spanL p l) (hl : j < l.length), p (l[j].toNat : Int) = true := by
  intro l
  induction l with
  | nil => intro j h; simp [spanL] at h
  | cons c r ih =>
    intro j h hl
    simp only [spanL] at h
    split at h
    · rename_i hc
      cases j with
      | zero => simpa using hc
      | succ j => have := ih j (by omega) (by simpa using hl); simpa using this
    · omega
theorem markL_le (l : List UInt8) : markL l ≤ l.length := by
  unfold markL
  cases l with
  | nil => simp
  | cons c r =>
    simp only
    split
    · rename_i h; simp at h; simp; omega
    · split <;> simp
theorem get_list (x : ByteArray) (j : Nat) (h : j < x.size) : x[j] = x.data.toList[j]'(by simpa using h) := by simp; rfl
theorem take_extract (s : ByteArray) (n : Nat) : (s.extract 0 n).data.toList = s.data.toList.take n := by rw [Lib.extract_data]; simp
theorem digits_all (s : ByteArray) : AllAre digitB (s.extract 0 (spanL digitB s.data.toList)) (s.extract 0 (spanL digitB s.data.toList)).size := by
  intro j hj hjs
  have hl := spanL_le digitB s.data.toList
  have e1 : (s.extract 0 (spanL digitB s.data.toList)).data.toList.length = spanL digitB s.data.toList := by
    rw [take_extract, List.length_take]; omega
  have hj2 : j < spanL digitB s.data.toList := by
    have : j < (s.extract 0 (spanL digitB s.data.toList)).data.toList.length := by simpa using hjs
    omega
  have e2 : (s.extract 0 (spanL digitB s.data.toList))[j] = s.data.toList[j]'(by omega) := by
    rw [get_list]
    simp only [take_extract, List.getElem_take]
  rw [e2]
  exact spanL_pre digitB s.data.toList j hj2 (by omega)


set_option maxHeartbeats 1000000 in
theorem token_any (s : ByteArray) (hs : s.size ≤ 65536) (h0 : 0 < s.size) (w : World) :
    Calls Tryd.prog 12 #[.string s] w fun e w' => e = .returned (tokV s (tokL s.data.toList)) ∧ Below w.heap.size w w' := by
  have HL := Lib.hid (head_of s h0)
  have HS := Lib.hid hs
  have HN := Lib.hid (spanL_le inNameB s.data.toList)
  have HG := Lib.hid (spanL_le digitB s.data.toList)
  have HM := Lib.hid (markL_le s.data.toList)
  have hlen : s.data.toList.length = s.size := by simp
  have HE := Lib.hid hlen
  clear hs hlen
  cases hl : letterB (s[0].toNat : Int)
  · cases hd : digitB (s[0].toNat : Int)
    · by_cases hm : 0 < markL s.data.toList
      · go_enter Tryd.func12, Tryd.ntmps12
        go_wp2_with (fail)
        refine (letter_any _ _).mono ?_; rintro e w' ⟨rfl, rfl⟩
        go_wp2_with (fail)
        refine (digit_any _ _).mono ?_; rintro e w' ⟨rfl, rfl⟩
        go_wp2_with (fail)
        refine (mark_any _ HS.out h0 _).mono ?_; rintro e w' ⟨rfl, rfl⟩
        go_wp2_with (fail)
        refine (piece_any _ _ _ HS.out (by have := HM.out; have := HE.out; omega) _).mono ?_; rintro e w1 ⟨rfl, hb⟩
        have hsz : w.heap.size < w1.heap.size := by have := hb.size; simp at this; omega
        have hc := fun j => hb.cell (p := ⟨w.heap.size, j, none⟩) (by simp)
        have hf := fun j => hb.frozen (p := ⟨w.heap.size, j, none⟩) (by simp)
        go_wp2_with (fail)
        rw [tokL_mark HL.out hl hd hm]
        refine bodyPost_ret (v := tokV s ⟨0, markL s.data.toList, 4, 0⟩) (by simp [results, Tryd.results12, go_sem, hc, tokV]) rfl ⟨rfl, ?_⟩
        have h1 := ((Below.refl w.heap.size w).alloc (Nat.le_refl _) (.cells #[Value.int IntKind.i64 0, Value.string { data := #[] }, Value.int IntKind.i64 0, Value.int IntKind.i64 0, Value.int IntKind.i64 0] 31)).trans (hb.mono (by simp))
        exact ((((h1.setCell (Nat.le_refl _) _).setCell (Nat.le_refl _) _).setCell (Nat.le_refl _) _).setCell (Nat.le_refl _) _).setCell (Nat.le_refl _) _
      · go_enter Tryd.func12, Tryd.ntmps12
        go_wp2_with (fail)
        refine (letter_any _ _).mono ?_; rintro e w' ⟨rfl, rfl⟩
        go_wp2_with (fail)
        refine (digit_any _ _).mono ?_; rintro e w' ⟨rfl, rfl⟩
        go_wp2_with (fail)
        refine (mark_any _ HS.out h0 _).mono ?_; rintro e w' ⟨rfl, rfl⟩
        go_wp2_with (fail)
        rw [tokL_sign HL.out hl hd hm]
        exact bodyPost_ret (v := tokV s ⟨10, 0, 0, 0⟩) (by simp [results, Tryd.results12, go_sem, tokV]; rfl) rfl ⟨rfl, (Below.refl _ _).alloc (Nat.le_refl _) _⟩
    · have hnum := fun w => number_any 2 (s.extract 0 (spanL digitB s.data.toList)) (by have := HS.out; simp; omega) (digits_all s) w
      cases hq : numL 0 (s.extract 0 (spanL digitB s.data.toList)).data.toList
      · simp only [hq, numV] at hnum
        have HQ := Lib.hid hnum; clear hnum
        go_enter Tryd.func12, Tryd.ntmps12
        go_wp2_with (fail)
        refine (letter_any _ _).mono ?_; rintro e w' ⟨rfl, rfl⟩
        go_wp2_with (fail)
        refine (digit_any _ _).mono ?_; rintro e w' ⟨rfl, rfl⟩
        go_wp2_with (fail)
        refine (span_digit _ HS.out _).mono ?_; rintro e w' ⟨rfl, rfl⟩
        go_wp2_with (fail)
        refine (piece_any _ _ _ HS.out (by have := HG.out; have := HE.out; omega) _).mono ?_; rintro e w1 ⟨rfl, hb⟩
        have hsz : w.heap.size < w1.heap.size := by have := hb.size; simp at this; omega
        have hc := fun j => hb.cell (p := ⟨w.heap.size, j, none⟩) (by simp)
        have hf := fun j => hb.frozen (p := ⟨w.heap.size, j, none⟩) (by simp)
        go_wp2_with (fail)
        refine (HQ.out _).mono ?_; rintro e w2 ⟨rfl, hb2⟩
        have hsz2 : w.heap.size < w2.heap.size := by have := hb2.size; omega
        have hc2 := fun j => hb2.cell (p := ⟨w.heap.size, j, none⟩) hsz
        have hf2 := fun j => hb2.frozen (p := ⟨w.heap.size, j, none⟩) hsz
        go_wp2_with (fail)
        rw [tokL_none HL.out hl hd (by rw [← take_extract]; exact hq)]
        refine bodyPost_ret (v := tokV s ⟨11, 0, 0, 0⟩) (by simp [results, Tryd.results12, go_sem, hc, hc2, tokV]; rfl) rfl ⟨rfl, ?_⟩
        have h1 := (((Below.refl w.heap.size w).alloc (Nat.le_refl _) (.cells #[Value.int IntKind.i64 0, Value.string { data := #[] }, Value.int IntKind.i64 0, Value.int IntKind.i64 0, Value.int IntKind.i64 0] 31)).trans (hb.mono (by simp))).trans (hb2.mono (Nat.le_of_lt hsz))
        exact ((((h1.setCell (Nat.le_refl _) _).setCell (Nat.le_refl _) _).setCell (Nat.le_refl _) _).setCell (Nat.le_refl _) _).setCell (Nat.le_refl _) _
      · simp only [hq, numV] at hnum
        have HQ := Lib.hid hnum; clear hnum
        go_enter Tryd.func12, Tryd.ntmps12
        go_wp2_with (fail)
        refine (letter_any _ _).mono ?_; rintro e w' ⟨rfl, rfl⟩
        go_wp2_with (fail)
        refine (digit_any _ _).mono ?_; rintro e w' ⟨rfl, rfl⟩
        go_wp2_with (fail)
        refine (span_digit _ HS.out _).mono ?_; rintro e w' ⟨rfl, rfl⟩
        go_wp2_with (fail)
        refine (piece_any _ _ _ HS.out (by have := HG.out; have := HE.out; omega) _).mono ?_; rintro e w1 ⟨rfl, hb⟩
        have hsz : w.heap.size < w1.heap.size := by have := hb.size; simp at this; omega
        have hc := fun j => hb.cell (p := ⟨w.heap.size, j, none⟩) (by simp)
        have hf := fun j => hb.frozen (p := ⟨w.heap.size, j, none⟩) (by simp)
        go_wp2_with (fail)
        refine (HQ.out _).mono ?_; rintro e w2 ⟨rfl, hb2⟩
        have hsz2 : w.heap.size < w2.heap.size := by have := hb2.size; omega
        have hc2 := fun j => hb2.cell (p := ⟨w.heap.size, j, none⟩) hsz
        have hf2 := fun j => hb2.frozen (p := ⟨w.heap.size, j, none⟩) hsz
        go_wp2_with (fail)
        rw [tokL_some HL.out hl hd (by rw [← take_extract]; exact hq)]
        refine bodyPost_ret (v := tokV s ⟨0, spanL digitB s.data.toList, 2, _⟩) (by simp [results, Tryd.results12, go_sem, hc, hc2, tokV]) rfl ⟨rfl, ?_⟩
        have h1 := (((Below.refl w.heap.size w).alloc (Nat.le_refl _) (.cells #[Value.int IntKind.i64 0, Value.string { data := #[] }, Value.int IntKind.i64 0, Value.int IntKind.i64 0, Value.int IntKind.i64 0] 31)).trans (hb.mono (by simp))).trans (hb2.mono (Nat.le_of_lt hsz))
        exact ((((h1.setCell (Nat.le_refl _) _).setCell (Nat.le_refl _) _).setCell (Nat.le_refl _) _).setCell (Nat.le_refl _) _).setCell (Nat.le_refl _) _
  · cases hr : reservedB (s.extract 0 (spanL inNameB s.data.toList)).toList
    · go_enter Tryd.func12, Tryd.ntmps12
      go_wp2_with (fail)
      refine (letter_any _ _).mono ?_; rintro e w' ⟨rfl, rfl⟩
      go_wp2_with (fail)
      refine (span_inName _ HS.out _).mono ?_; rintro e w' ⟨rfl, rfl⟩
      go_wp2_with (fail)
      refine (piece_any _ _ _ HS.out (by have := HN.out; have := HE.out; omega) _).mono ?_; rintro e w1 ⟨rfl, hb⟩
      have hsz : w.heap.size < w1.heap.size := by have := hb.size; simp at this; omega
      have hc := fun j => hb.cell (p := ⟨w.heap.size, j, none⟩) (by simp)
      have hf := fun j => hb.frozen (p := ⟨w.heap.size, j, none⟩) (by simp)
      go_wp2_with (fail)
      refine (reserved_any _ _).mono ?_; rintro e w2 ⟨rfl, rfl⟩
      go_wp2_with (fail)
      have e1 : tokL s.data.toList = ⟨0, spanL inNameB s.data.toList, 1, 0⟩ := by
        have hr' := hr
        rw [Lib.toList_data, take_extract] at hr'
        rw [tokL_letter HL.out hl, hr']; rfl
      rw [e1]
      refine bodyPost_ret (v := tokV s ⟨0, spanL inNameB s.data.toList, 1, 0⟩) (by simp [results, Tryd.results12, go_sem, hc, hsz, tokV]) rfl ⟨rfl, ?_⟩
      have h1 := ((Below.refl w.heap.size w).alloc (Nat.le_refl _) (.cells #[Value.int IntKind.i64 0, Value.string { data := #[] }, Value.int IntKind.i64 0, Value.int IntKind.i64 0, Value.int IntKind.i64 0] 31)).trans (hb.mono (by simp))
      exact Below.alloc (((((h1.setCell (Nat.le_refl _) _).setCell (Nat.le_refl _) _).setCell (Nat.le_refl _) _).setCell (Nat.le_refl _) _).setCell (Nat.le_refl _) _) (by simp; omega) _
    · go_enter Tryd.func12, Tryd.ntmps12
      go_wp2_with (fail)
      refine (letter_any _ _).mono ?_; rintro e w' ⟨rfl, rfl⟩
      go_wp2_with (fail)
      refine (span_inName _ HS.out _).mono ?_; rintro e w' ⟨rfl, rfl⟩
      go_wp2_with (fail)
      refine (piece_any _ _ _ HS.out (by have := HN.out; have := HE.out; omega) _).mono ?_; rintro e w1 ⟨rfl, hb⟩
      have hsz : w.heap.size < w1.heap.size := by have := hb.size; simp at this; omega
      have hc := fun j => hb.cell (p := ⟨w.heap.size, j, none⟩) (by simp)
      have hf := fun j => hb.frozen (p := ⟨w.heap.size, j, none⟩) (by simp)
      go_wp2_with (fail)
      refine (reserved_any _ _).mono ?_; rintro e w2 ⟨rfl, rfl⟩
      go_wp2_with (fail)
      have e1 : tokL s.data.toList = ⟨0, spanL inNameB s.data.toList, 3, 0⟩ := by
        have hr' := hr
        rw [Lib.toList_data, take_extract] at hr'
        rw [tokL_letter HL.out hl, hr']; rfl
      rw [e1]
      refine bodyPost_ret (v := tokV s ⟨0, spanL inNameB s.data.toList, 3, 0⟩) (by simp [results, Tryd.results12, go_sem, hc, hsz, tokV]) rfl ⟨rfl, ?_⟩
      have h1 := ((Below.refl w.heap.size w).alloc (Nat.le_refl _) (.cells #[Value.int IntKind.i64 0, Value.string { data := #[] }, Value.int IntKind.i64 0, Value.int IntKind.i64 0, Value.int IntKind.i64 0] 31)).trans (hb.mono (by simp))
      exact Below.alloc (((((h1.setCell (Nat.le_refl _) _).setCell (Nat.le_refl _) _).setCell (Nat.le_refl _) _).setCell (Nat.le_refl _) _).setCell (Nat.le_refl _) _) (by simp; omega) _
end Go.Proofs.YteapdemofkmonaaDoor
