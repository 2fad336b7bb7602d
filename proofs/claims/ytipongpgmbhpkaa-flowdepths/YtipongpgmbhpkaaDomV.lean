/-
  flow: Order, as a function of lists; a row turned round.
-/
import Derived.Test.YtipongpgmbhpkaaDomU
import Derived.Test.YtipongpgmbhpkaaShelf
namespace Go.Proofs.Ytipongpgmbhpkaa
open Go.ChangeShapes Go.WideShapes Go.ChangeAt Go.RowKit
open Go.Proofs.Ytipongpgmbhpkaa.RegInv
set_option linter.unusedVariables false

theorem own_reverse {B : Nat} {w : World} {g n cap : Nat} {xs : List Int} (h : w.ownsRow B 3 1 (.slice (some ⟨g, 0, none⟩) n cap) n (xs.map iV)) (m : Nat) :
    (Sort.putRow (Value.int .i64) (Sort.ahead w m) g 0 xs.reverse.toArray).ownsRow B 3 1 (.slice (some ⟨g, 0, none⟩) n cap) n (xs.reverse.map iV) := by
  have hl : xs.length = n := by have := own_len h; simpa using this
  rcases h.2 with ⟨h1, _⟩ | ⟨g', cap', cur, h1, hb, hgg, hc, hm, hs, ht⟩
  · cases h1
  · cases h1
    rw [Nat.mul_one] at ht hs
    have hcl : n ≤ cur.size := by omega
    refine ⟨by simp [hl], .inr ⟨g, cap, Sort.putCells (Value.int .i64) 0 xs.reverse.toArray cur, rfl, hb, ?_, hc, hm, ?_, ?_⟩⟩
    · show (w.heap.modify g _)[g]? = _
      rw [Array.getElem?_modify, if_pos rfl, hgg]
      rfl
    · rw [Nat.mul_one]; unfold Sort.putCells; simp [hs]
    · rw [Nat.mul_one]
      apply List.ext_getElem?
      intro k
      rw [List.getElem?_take]
      by_cases hk : k < n
      · rw [if_pos hk, Array.getElem?_toList]
        unfold Sort.putCells
        rw [Array.getElem?_mapIdx]
        have hkc : k < cur.size := by omega
        rw [Array.getElem?_eq_getElem hkc, Option.map_some, if_pos (by simp; omega), List.getElem?_map]
        rw [List.getElem?_eq_getElem (by rw [List.length_reverse]; omega)]
        simp only [Option.map_some, Option.some.injEq]
        rw [Nat.sub_zero, getElem!_pos _ k (by simp; omega)]
        simp [iV]
      · rw [if_neg hk, List.getElem?_eq_none (by simp; omega)]
theorem below_reverse {B : Nat} {w : World} {g : Nat} (hB : B ≤ g) (m : Nat) (d : Array Int) : Below B w (Sort.putRow (Value.int .i64) (Sort.ahead w m) g 0 d) :=
  ⟨rfl, rfl, rfl, by simp [Sort.ahead], fun k hk => by
    show (w.heap.modify g _)[k]? = _
    rw [Array.getElem?_modify, if_neg (by omega)]⟩
theorem reverse_any {B : Nat} {w : World} {g n cap : Nat} {xs : List Int} (h : w.ownsRow B 3 1 (.slice (some ⟨g, 0, none⟩) n cap) n (xs.map iV)) :
    Calls Try.prog 22 #[.slice (some ⟨g, 0, none⟩) n cap] w fun e w' => e = .returned (.tuple #[]) ∧ Below B w w' ∧ w'.ownsRow B 3 1 (.slice (some ⟨g, 0, none⟩) n cap) n (xs.reverse.map iV) := by
  have hl : xs.length = n := by have := own_len h; simpa using this
  obtain ⟨hB, hg⟩ := h.lt g rfl
  have hmx : n ≤ maxLen := by
    rcases h.2 with ⟨h1, _⟩ | ⟨g', cap', cur, h1, hb, hgg, hc, hm, _⟩
    · cases h1
    · cases h1; omega
  have hh : Sort.Holds (Value.int .i64) w g 0 xs.toArray := by
    intro j hj
    have hj' : j < xs.length := by simpa using hj
    obtain ⟨a, b, _, _⟩ := own_at h (List.getElem?_eq_getElem hj')
    rw [Nat.zero_add]
    refine ⟨?_, b⟩
    rw [a, getElem!_pos _ j hj]
    simp
  have := Try.slices_Reverse_int g 0 cap xs w hh (by rw [hl]; unfold maxLen at hmx; omega)
  rw [hl] at this
  refine this.mono ?_
  rintro e w' ⟨rfl, m, rfl⟩
  exact ⟨rfl, below_reverse hB m _, own_reverse h m⟩
/-- What holds all along. -/
structure OS.ok (outs : List (List Int)) (x : OS) : Prop where
  ml : x.met.length = outs.length
  gl : x.gone.length = outs.length
  pin : ∀ b ∈ x.path, 0 ≤ b ∧ b < (outs.length : Int)
  lin : ∀ b ∈ x.laid, 0 ≤ b ∧ b < (outs.length : Int)
  tin : ∀ (i : Nat) (row : List Int), outs[i]? = some row → 0 ≤ gi x.gone i ∧ gi x.gone i ≤ (row.length : Int)
def OS.left (outs : List (List Int)) (x : OS) : Nat := 2 * rest outs x.gone + x.path.length
def Inside (outs : List (List Int)) : Prop := ∀ row ∈ outs, ∀ x ∈ row, 0 ≤ x ∧ x < (outs.length : Int)
theorem OS.step_end {outs : List (List Int)} {x : OS} {f : Nat} {row : List Int} (hb : x.path.getLastD 0 = (f : Int)) (hrow : outs[f]? = some row) (hk : gi x.gone f = (row.length : Int)) : x.step outs = ⟨x.laid ++ [(f : Int)], x.met, x.gone, x.path.take (x.path.length - 1)⟩ := by
  have hgr : gr outs (f : Int) = row := by unfold gr; rw [Int.toNat_natCast, List.getD_eq_getElem?_getD, hrow]; rfl
  unfold OS.step
  dsimp only
  rw [hb, hgr, if_pos hk]
theorem OS.step_way {outs : List (List Int)} {x : OS} {f k t : Nat} {row : List Int} (hb : x.path.getLastD 0 = (f : Int)) (hrow : outs[f]? = some row) (hk : gi x.gone f = (k : Int)) (ht : row[k]? = some (t : Int)) : x.step outs = if x.met.getD t false then ⟨x.laid, x.met, x.gone.set f ((k : Int) + 1), x.path⟩ else ⟨x.laid, x.met.set t true, x.gone.set f ((k : Int) + 1), x.path ++ [(t : Int)]⟩ := by
  have hgr : gr outs (f : Int) = row := by unfold gr; rw [Int.toNat_natCast, List.getD_eq_getElem?_getD, hrow]; rfl
  have hkl := (List.getElem?_eq_some_iff.1 ht).1
  have hg : gi row (k : Int) = t := by unfold gi; rw [Int.toNat_natCast, List.getD_eq_getElem?_getD, ht]; rfl
  unfold OS.step
  dsimp only
  rw [hb, hgr, hk, if_neg (by omega), hg, Int.toNat_natCast, Int.toNat_natCast]
theorem OS.ok.step {outs : List (List Int)} {x : OS} (h : x.ok outs) (hin : Inside outs) (hp : x.path ≠ []) : (x.step outs).ok outs ∧ (x.step outs).left outs < x.left outs := by
  obtain ⟨b0, b1⟩ := h.pin _ (last_mem hp)
  obtain ⟨b, hb⟩ : ∃ b : Nat, x.path.getLastD 0 = b := ⟨(x.path.getLastD 0).toNat, by omega⟩
  rw [hb] at b0 b1
  have hbl : b < outs.length := by omega
  obtain ⟨row, hrow⟩ : ∃ r, outs[b]? = some r := ⟨_, List.getElem?_eq_getElem hbl⟩
  have hpl : 0 < x.path.length := List.length_pos_iff.2 hp
  obtain ⟨t0, t1⟩ := h.tin b row hrow
  obtain ⟨k, hk⟩ : ∃ k : Nat, gi x.gone b = k := ⟨(gi x.gone b).toNat, by omega⟩
  by_cases hkl : k = row.length
  · rw [OS.step_end hb hrow (by rw [hk, hkl])]
    refine ⟨⟨h.ml, h.gl, fun c hc => h.pin c (List.mem_of_mem_take hc), fun c hc => ?_, h.tin⟩, ?_⟩
    · rcases List.mem_append.1 hc with hc | hc
      · exact h.lin c hc
      · obtain rfl := List.mem_singleton.1 hc; omega
    · unfold OS.left
      dsimp only
      rw [List.length_take]
      omega
  · have hkr : k < row.length := by omega
    obtain ⟨tt, htt⟩ : ∃ tt, row[k]? = some tt := ⟨_, List.getElem?_eq_getElem hkr⟩
    have hti := hin row (List.mem_of_getElem? hrow) tt (List.mem_of_getElem? htt)
    obtain ⟨t, rfl⟩ : ∃ t : Nat, tt = t := ⟨tt.toNat, by omega⟩
    have hgk : x.gone[b]? = some (k : Int) := by rw [gi_get (by rw [h.gl]; exact hbl), hk]
    have hr := rest_set outs x.gone b row k hrow hgk (by omega) (by omega)
    have hgl : (x.gone.set b ((k : Int) + 1)).length = outs.length := by rw [List.length_set]; exact h.gl
    have htin : ∀ (i : Nat) (r : List Int), outs[i]? = some r → 0 ≤ gi (x.gone.set b ((k : Int) + 1)) i ∧ gi (x.gone.set b ((k : Int) + 1)) i ≤ (r.length : Int) := by
      intro i r hi
      rw [gi_set (by rw [h.gl]; exact hbl) _ _ (by omega)]
      split
      · rename_i e
        obtain rfl : i = b := by omega
        rw [hrow] at hi
        cases hi
        omega
      · exact h.tin i r hi
    rw [OS.step_way hb hrow hk htt]
    split
    · refine ⟨⟨h.ml, hgl, h.pin, h.lin, htin⟩, ?_⟩
      unfold OS.left
      dsimp only
      omega
    · refine ⟨⟨by dsimp only; rw [List.length_set]; exact h.ml, hgl, fun c hc => ?_, h.lin, htin⟩, ?_⟩
      · rcases List.mem_append.1 hc with hc | hc
        · exact h.pin c hc
        · obtain rfl := List.mem_singleton.1 hc; exact hti
      · unfold OS.left
        dsimp only
        rw [List.length_append, List.length_singleton]; omega
theorem OS.run_step {outs : List (List Int)} {x : OS} (hp : x.path ≠ []) (k : Nat) : x.run outs (k + 1) = (x.step outs).run outs k := by
  rw [OS.run]
  split
  · rename_i h; exact absurd h hp
  · rfl
theorem OS.run_nil {outs : List (List Int)} {x : OS} (hp : x.path = []) (k : Nat) : x.run outs k = x := by
  cases k with
  | zero => rfl
  | succ k => rw [OS.run, hp]
def OS.first (n : Nat) : OS := OS.mk [] ((List.replicate n false).set 0 true) (List.replicate n 0) [0]
theorem OS.ok.first {outs : List (List Int)} (h : outs ≠ []) : (OS.first outs.length).ok outs ∧ (OS.first outs.length).left outs = 2 * edges outs + 1 := by
  have hl : 0 < outs.length := List.length_pos_iff.2 h
  refine ⟨⟨by unfold OS.first; simp, by unfold OS.first; simp, fun b hb => ?_, fun b hb => (by cases hb), fun i row hi => ?_⟩, ?_⟩
  · obtain rfl := List.mem_singleton.1 hb; omega
  · have hil := (List.getElem?_eq_some_iff.1 hi).1
    have : gi (List.replicate outs.length 0) (i : Int) = 0 := by
      unfold gi
      rw [Int.toNat_natCast, List.getD_eq_getElem?_getD, List.getElem?_replicate, if_pos hil]; rfl
    show 0 ≤ gi (List.replicate outs.length 0) (i : Int) ∧ gi (List.replicate outs.length 0) (i : Int) ≤ _
    rw [this]; omega
  · show 2 * rest outs (List.replicate outs.length 0) + 1 = _
    rw [rest_none]
theorem OS.ok.run {outs : List (List Int)} (hin : Inside outs) : ∀ (k : Nat) (x : OS), x.ok outs → (x.run outs k).ok outs
  | 0, x, h => h
  | k + 1, x, h => by
    by_cases hp : x.path = []
    · rw [OS.run_nil hp]; exact h
    · rw [OS.run_step hp]
      exact OS.ok.run hin k _ (h.step hin hp).1
theorem orderL_eq {outs : List (List Int)} (h : outs ≠ []) : orderL outs = ((OS.first outs.length).run outs (2 * edges outs + 2 * outs.length)).laid.reverse := by
  cases outs with
  | nil => exact absurd rfl h
  | cons r rs => rfl
end Go.Proofs.Ytipongpgmbhpkaa
