/-
  The writer: function.
  The writer: laidFlat.
-/
import Derived.Test.YtaomlahphlemdaaGreatDoorRunH
namespace Go.Proofs.YtaomlahphlemdaaGreatDoor
open Go.ChangeShapes Go.WideShapes Go.ChangeAt Go.RowKit
set_option linter.unusedVariables false

theorem infoBody : (Tryz.prog.info? 115).map (fun i => (i.zero, i.size, i.bytes)) = some (some (.agg #[.int .i64 0, .int .i64 0, .int .i64 0]), 3, 24) := by kernel_rfl
theorem boCells_snoc (l : List Bo) (b : Bo) : boCells (l ++ [b]) = boCells l ++ boV b := by simp [boCells]
theorem bo_one (a b c : Int) : ∀ u ∈ [Value.int .i64 a, .int .i64 b, .int .i64 c], u.oneCell' = true := by
  intro u hu
  simp only [List.mem_cons, List.not_mem_nil, or_false] at hu
  rcases hu with rfl | rfl | rfl <;> rfl
/-- The blocks that writing a function may turn. -/
def FX (Wb : Nat) (ov bv : Value) (q : Nat) : Prop := q = Wb ∨ ov.ownBlock = some q ∨ bv.ownBlock = some q
structure WentF (Wb : Nat) (ov ov' bv bv' : Value) (w w' : World) : Prop where
  turn : Turn (FX Wb ov bv) w w'
  own : ∀ q, ov'.ownBlock = some q → ov.ownBlock = some q ∨ w.heap.size ≤ q
  own2 : ∀ q, bv'.ownBlock = some q → bv.ownBlock = some q ∨ w.heap.size ≤ q
theorem WentF.refl (Wb : Nat) (ov bv : Value) (w : World) : WentF Wb ov ov bv bv w w := ⟨Turn.refl _ _, fun q h => .inl h, fun q h => .inl h⟩
theorem WentF.trans {Wb : Nat} {o1 o2 o3 b1 b2 b3 : Value} {a b c : World} (h : WentF Wb o1 o2 b1 b2 a b) (k : WentF Wb o2 o3 b2 b3 b c) : WentF Wb o1 o3 b1 b3 a c :=
  ⟨h.turn.trans' k.turn (fun q hq hy => by
    rcases hy with hy | hy | hy
    · exact .inl hy
    · rcases h.own q hy with h1 | h1
      · exact .inr (.inl h1)
      · omega
    · rcases h.own2 q hy with h1 | h1
      · exact .inr (.inr h1)
      · omega), fun q hq => by
    rcases k.own q hq with h1 | h1
    · exact h.own q h1
    · have := h.turn.size; exact .inr (by omega), fun q hq => by
    rcases k.own2 q hq with h1 | h1
    · exact h.own2 q h1
    · have := h.turn.size; exact .inr (by omega)⟩
theorem WentF.alloc {Wb : Nat} {o1 o2 b1 b2 : Value} {a b : World} (h : WentF Wb o1 o2 b1 b2 a b) (o : Obj) : WentF Wb o1 o2 b1 b2 a (b.alloc o) := ⟨h.turn.alloc o, h.own, h.own2⟩
theorem WentF.drew {Wb : Nat} {o1 o2 b1 b2 : Value} {a b : World} (h : WentF Wb o1 o2 b1 b2 a b) : WentF Wb o1 o2 b1 b2 a b.drew := ⟨h.turn.drew, h.own, h.own2⟩
theorem WentF.went {Wb L : Nat} {o1 o2 o3 b1 b2 : Value} {a b c : World} (h : WentF Wb o1 o2 b1 b2 a b) (k : WentW Wb (some L) o2 o3 b c) (hL : a.heap.size ≤ L) : WentF Wb o1 o3 b1 b2 a c :=
  ⟨h.turn.trans' k.turn (fun q hq hy => by
    rcases hy with hy | hy | hy
    · exact .inl hy
    · cases hy; omega
    · rcases h.own q hy with h1 | h1
      · exact .inr (.inl h1)
      · omega), fun q hq => by
    rcases k.own q hq with h1 | h1
    · exact h.own q h1
    · have := h.turn.size; exact .inr (by omega), h.own2⟩
/-- A body more. -/
theorem Writes.moreB {B Wb : Nat} {M : Option Nat} {G F : Nat} {ov bv bv' : Value} {k : Wr} {w w' : World} (h : Writes B Wb M G F ov bv k w) (b : Bo) (hg : w.grownBy w' bv.ownBlock)
    (ho : w'.ownsRow B 115 3 bv' (k.bodies.length + 1) (boCells k.bodies ++ boV b)) : Writes B Wb M G F ov bv' { k with bodies := k.bodies ++ [b] } (w'.setCell ⟨Wb, 1, none⟩ bv') ∧ Turn (FX Wb ov bv) w (w'.setCell ⟨Wb, 1, none⟩ bv') := by
  have hb : ∀ q, q < w.heap.size → bv.ownBlock ≠ some q → w'.heap[q]? = w.heap[q]? := fun q hq hne => hg.block q hq (fun e => hne e.symm)
  have hW := h.lt
  have hWb : w'.heap[Wb]? = some (.cells (cellsW ov bv G F M k) 112 (0, 0)) := (hb Wb hW (fun e => own_ne h.bod h.blk (by decide) _ e rfl)).trans h.blk
  have hs : ∀ q, q ≠ Wb → (w'.setCell ⟨Wb, 1, none⟩ bv').heap[q]? = w'.heap[q]? := fun q hq => Below.heap_setCell _ _ _ _ hq
  refine ⟨⟨?_, ?_, ?_, ?_, ?_, ?_, h.low⟩, ?_⟩
  · rw [set_block _ _ _ _ _ _ hWb]; rfl
  · exact own_keep h.ord (fun q hq => (hs q (own_ne h.ord h.blk (by decide) q hq)).trans (hb q (h.ord.lt q hq).2 (own_ne2 h.ord h.bod (by decide) q hq)))
  · have : ({ k with bodies := k.bodies ++ [b] } : Wr).bodies.length = k.bodies.length + 1 := by simp
    rw [this, show ({ k with bodies := k.bodies ++ [b] } : Wr).bodies = k.bodies ++ [b] from rfl, boCells_snoc]
    exact own_keep ho (fun q hq => hs q (own_ne ho hWb (by decide) q hq))
  · exact h.gm.keep ((hs G (map_ne h.gm h.blk)).trans (hb G h.gm.lt (own_map h.bod h.gm)))
  · exact h.fm.keep ((hs F (map_ne h.fm h.blk)).trans (hb F h.fm.lt (own_map h.bod h.fm)))
  · intro L hL
    obtain ⟨h1, h2⟩ := h.wm L hL
    exact ⟨h1.keep ((hs L (map_ne h1 h.blk)).trans (hb L h1.lt (own_map h.bod h1))), h2⟩
  · refine ⟨hg.os, hg.tape, hg.output, by have := hg.size; simpa using this, fun q hq hx => ?_⟩
    exact (hs q (fun e => hx (.inl e))).trans (hb q hq (fun e => hx (.inr (.inr e))))
/-- A new map for the names. -/
theorem Writes.fresh {B Wb : Nat} {M : Option Nat} {G F : Nat} {ov bv : Value} {k : Wr} {w : World} (h : Writes B Wb M G F ov bv k w) (hB : B ≤ w.heap.size) :
    Writes B Wb (some w.heap.size) G F ov bv { k with words := [], most := 0 } (((w.alloc (.map #[] 0)).setCell ⟨Wb, 4, none⟩ (.map (some w.heap.size))).setCell ⟨Wb, 5, none⟩ (.int .i64 0)) ∧
    Turn (· = Wb) w (((w.alloc (.map #[] 0)).setCell ⟨Wb, 4, none⟩ (.map (some w.heap.size))).setCell ⟨Wb, 5, none⟩ (.int .i64 0)) := by
  have h' := h.alloc (.map #[] 0)
  have hlt := h.lt
  have hs : ∀ q, q ≠ Wb → (((w.alloc (.map #[] 0)).setCell ⟨Wb, 4, none⟩ (.map (some w.heap.size))).setCell ⟨Wb, 5, none⟩ (.int .i64 0)).heap[q]? = (w.alloc (.map #[] 0)).heap[q]? := fun q hq => (Below.heap_setCell _ _ _ _ hq).trans (Below.heap_setCell _ _ _ _ hq)
  have hG := h.gm.lt; have hF := h.fm.lt
  refine ⟨⟨?_, ?_, ?_, h'.gm.keep (hs G (map_ne h'.gm h'.blk)), h'.fm.keep (hs F (map_ne h'.fm h'.blk)), ?_, h.low⟩, ?_⟩
  · rw [set_block _ _ _ _ _ _ (set_block _ _ _ _ _ _ h'.blk)]; rfl
  · exact own_keep h'.ord (fun q hq => hs q (own_ne h'.ord h'.blk (by decide) q hq))
  · exact own_keep h'.bod (fun q hq => hs q (own_ne h'.bod h'.blk (by decide) q hq))
  · intro L hL
    cases hL
    exact ⟨(nm_made 3 w).keep (hs _ (by omega)), hB, by omega, by omega⟩
  · exact ((((Turn.refl (· = Wb) w).alloc _).put Wb 4 _ (.inl rfl)).put Wb 5 _ (.inl rfl))
theorem wrParams_snoc : ∀ (xs : List (List UInt8)) (x : List UInt8) (k : Wr), wrParams (xs ++ [x]) k = (wrParams xs k).know x
  | [], x, k => by simp [wrParams]
  | a :: xs, x, k => by simp only [List.cons_append, wrParams]; exact wrParams_snoc xs x _
def wpAt (xs : List (List UInt8)) (i : Nat) (k : Wr) : Wr := wrParams (xs.take i) k
theorem wpAt_succ {xs : List (List UInt8)} {i : Nat} (h : i < xs.length) (k : Wr) : wpAt xs (i + 1) k = (wpAt xs i k).know xs[i] := by
  unfold wpAt; rw [List.take_succ_eq_append_getElem h, wrParams_snoc]
theorem wpAt_all (xs : List (List UInt8)) (k : Wr) : wpAt xs xs.length k = wrParams xs k := by unfold wpAt; rw [List.take_length]
theorem wrote_params : ∀ (xs : List (List UInt8)) (k : Wr), Wrote k (wrParams xs k) 0 xs.length
  | [], k => Wrote.refl k
  | x :: r, k => by rw [wrParams]; exact ((wrote_know k x).trans (wrote_params r _)).more (by omega) (by simp; omega)
def FPostW (B Wb G F : Nat) (ov bv : Value) (k' : Wr) (w : World) (e : Ending) (w' : World) : Prop := e = .returned (.tuple #[]) ∧ ∃ M' ov' bv', WentF Wb ov ov' bv bv' w w' ∧ Writes B Wb M' G F ov' bv' k' w'
set_option maxHeartbeats 8000000 in
set_option maxRecDepth 100000 in
theorem function_w {f : Fn} (hsh : ∀ i (hi : i < f.params.length), (f.params[i]).length ≤ 65536) (hfit : Sm.fits f.body = true) (hgood : Sm.goods f.body = true) (hroom : f.params.length + Sm.grows f.body ≤ 1000000) {B Wb G F : Nat} {M : Option Nat} {ov bv : Value} {k : Wr} {w : World} {pa ba : Option Addr} {pc bn bc : Nat} (hB : B ≤ w.heap.size) (h : Writes B Wb M G F ov bv k w)
    (hz : k.orders.length + Sm.wts f.body + 2 ≤ 1099511627776) (hzb : k.bodies.length ≤ 1099511627776) (hp : StrsAt w (· < B) f.params (.slice pa f.params.length pc)) (hb : BodyAt w (· < B) f.body (.slice ba bn bc)) :
    Calls Tryz.prog 43 #[.pointer (some ⟨Wb, 0, none⟩), .agg #[.string ⟨f.name.toArray⟩, .slice pa f.params.length pc, .slice ba bn bc, .int .i64 f.line, .int .i64 f.col]] w (FPostW B Wb G F ov bv (wrFunc f k) w) := by
  obtain ⟨name, params, body, line, col⟩ := f
  dsimp only at hsh hfit hgood hroom hz hp hb ⊢
  obtain ⟨i0, hi, hz0⟩ := Option.map_eq_some_iff.1 infoBody
  obtain ⟨h1, h2, h3⟩ : i0.zero = some (.agg #[.int .i64 0, .int .i64 0, .int .i64 0]) ∧ i0.size = 3 ∧ i0.bytes = 24 := by simpa using hz0
  have HI := Lib.hid hi; have HZ0 := Lib.hid h1; have HZ1 := Lib.hid h2; have HZ2 := Lib.hid h3
  have HW := Lib.hid h; have HP := Lib.hid hp; have HB := Lib.hid hb; have HSH := Lib.hid hsh; have HFIT := Lib.hid hfit; have HGD := Lib.hid hgood; have HROOM := Lib.hid hroom; have HZ := Lib.hid hz; have HZB := Lib.hid hzb
  obtain ⟨_, _, _, _, c4, c5, hf⟩ := h.open
  have f4 := hf 4; have f5 := hf 5
  have hlt := h.lt
  have hlowW := h.low
  have HXL := Lib.hid h.xlow
  obtain ⟨k1, hk1⟩ : ∃ k1 : Wr, k1 = { k with words := [], most := 0 } := ⟨_, rfl⟩
  obtain ⟨k2, hk2⟩ : ∃ k2, k2 = wrParams params k1 := ⟨_, rfl⟩
  obtain ⟨k3, hk3⟩ : ∃ k3, k3 = wrBlock body k2 := ⟨_, rfl⟩
  have HK1 := Lib.hid hk1; have HK2 := Lib.hid hk2; have HK3 := Lib.hid hk3
  have HE := Lib.hid (show wrFunc ⟨name, params, body, line, col⟩ k = { ((k3.add 1 0).add 16 0) with bodies := ((k3.add 1 0).add 16 0).bodies ++ [⟨k.orders.length, params.length, ((k3.add 1 0).add 16 0).most⟩] } by rw [hk3, hk2, hk1]; rfl)
  rw [HE.out]
  clear h hp hb hsh hfit hgood hroom hf hz hzb hi h1 h2 h3 hz0 hk1 hk2 hk3
  have hmm := @run_makeMap Tryz.prog
  go_enter Tryz.func43, Tryz.ntmps43
  go_upto_region 2 with (fail)
  have hcomm : (((w.setCell ⟨Wb, 4, none⟩ (.map (some (w.heap.size + 1)))).setCell ⟨Wb, 5, none⟩ (.int .i64 0)).alloc (.cells #[.string ⟨name.toArray⟩, .slice pa params.length pc, .slice ba bn bc, .int .i64 line, .int .i64 col] 58)).alloc (.map #[] 0) = (((w.alloc (.cells #[.string ⟨name.toArray⟩, .slice pa params.length pc, .slice ba bn bc, .int .i64 line, .int .i64 col] 58)).alloc (.map #[] 0)).setCell ⟨Wb, 4, none⟩ (.map (some (w.alloc (.cells #[.string ⟨name.toArray⟩, .slice pa params.length pc, .slice ba bn bc, .int .i64 line, .int .i64 col] 58)).heap.size))).setCell ⟨Wb, 5, none⟩ (.int .i64 0) := by
    rw [World.setCell_alloc_past _ _ _ _ (by simp; omega), World.setCell_alloc_past _ _ _ _ (by simp; omega), World.setCell_alloc_past _ _ _ _ (by simpa using hlt), World.setCell_alloc_past _ _ _ _ (by simpa using hlt)]
    simp
  rw [hcomm]
  obtain ⟨hw1, ht1⟩ := (HW.out.alloc (.cells #[.string ⟨name.toArray⟩, .slice pa params.length pc, .slice ba bn bc, .int .i64 line, .int .i64 col] 58)).fresh (by simp; omega)
  have hL1 : w.heap.size + 1 = (w.alloc (.cells #[.string ⟨name.toArray⟩, .slice pa params.length pc, .slice ba bn bc, .int .i64 line, .int .i64 col] 58)).heap.size := by simp
  have hB1 : (((w.alloc (.cells #[.string ⟨name.toArray⟩, .slice pa params.length pc, .slice ba bn bc, .int .i64 line, .int .i64 col] 58)).alloc (.map #[] 0)).setCell ⟨Wb, 4, none⟩ (.map (some (w.alloc (.cells #[.string ⟨name.toArray⟩, .slice pa params.length pc, .slice ba bn bc, .int .i64 line, .int .i64 col] 58)).heap.size))).setCell ⟨Wb, 5, none⟩ (.int .i64 0) = (((w.alloc (.cells #[.string ⟨name.toArray⟩, .slice pa params.length pc, .slice ba bn bc, .int .i64 line, .int .i64 col] 58)).alloc (.map #[] 0)).setCell ⟨Wb, 4, none⟩ (.map (some (w.alloc (.cells #[.string ⟨name.toArray⟩, .slice pa params.length pc, .slice ba bn bc, .int .i64 line, .int .i64 col] 58)).heap.size))).setCell ⟨Wb, 5, none⟩ (.int .i64 0) := rfl
  have hbx := (ht1.block w.heap.size (by simp) (by omega)).trans (alloc_at w (.cells #[.string ⟨name.toArray⟩, .slice pa params.length pc, .slice ba bn bc, .int .i64 line, .int .i64 col] 58) _ rfl)
  have hT1 := ((Turn.refl (· = Wb) w).alloc (.cells #[.string ⟨name.toArray⟩, .slice pa params.length pc, .slice ba bn bc, .int .i64 line, .int .i64 col] 58)).trans ht1
  generalize (((w.alloc (.cells #[.string ⟨name.toArray⟩, .slice pa params.length pc, .slice ba bn bc, .int .i64 line, .int .i64 col] 58)).alloc (.map #[] 0)).setCell ⟨Wb, 4, none⟩ (.map (some (w.alloc (.cells #[.string ⟨name.toArray⟩, .slice pa params.length pc, .slice ba bn bc, .int .i64 line, .int .i64 col] 58)).heap.size))).setCell ⟨Wb, 5, none⟩ (.int .i64 0) = W at *
  have hsW : w.heap.size + 1 ≤ W.heap.size := by have := ht1.size; rw [hL1]; exact this
  rw [← hL1, ← HK1.out] at hw1
  clear hcomm hL1 hB1 c4 c5 f4 f5 hmm ht1
  obtain ⟨L, hLL⟩ : ∃ L, L = w.heap.size + 1 := ⟨_, rfl⟩
  rw [← hLL] at hw1
  have hbW : w.heap.size < W.heap.size := by omega
  have HT1 := Lib.hid (show WentF Wb ov ov bv bv w W from ⟨hT1.mono (fun q hq => .inl hq), fun q hq => .inl hq, fun q hq => .inl hq⟩)
  have HW1 := Lib.hid hw1; have HBX := Lib.hid hbx
  have HBXX := Lib.hid (show ∀ (ov' : Value) (w' : World), WentW Wb (some L) ov ov' W w' → w'.heap[w.heap.size]? = some (.cells #[.string ⟨name.toArray⟩, .slice pa params.length pc, .slice ba bn bc, .int .i64 line, .int .i64 col] 58 (0, 0)) from fun ov' w' ht => (ht.turn.block _ hbW (fun hx => by
    rcases hx with hx | hx | hx
    · omega
    · cases hx; omega
    · have := (HXL.out _ (.inr (.inr hx))).2; omega)).trans hbx)
  have HLOW := Lib.hid (show ∀ q, WX Wb (some L) ov q → B ≤ q from fun q hq => by
    rcases hq with hq | hq | hq
    · omega
    · cases hq; omega
    · exact (HXL.out _ (.inr (.inr hq))).1)
  have hps : params.length ≤ 4611686018427387904 ∧ (∀ j (hj : j < params.length), ∃ g o, pa = some ⟨g, o, none⟩ ∧ g < B ∧ g < w.heap.size ∧ params.length ≤ pc ∧ w.cell? ⟨g, o + j, none⟩ = some (.string ⟨(params[j]).toArray⟩)) := by
    rcases HP.out with ⟨q, a, cap, q2⟩ | ⟨_, g, o, cap, q2, hS, hg, h1, h2, h3⟩
    · exact ⟨by rw [q]; simp, fun j hj => by rw [q] at hj; simp at hj⟩
    · cases q2; exact ⟨h2, fun j hj => ⟨g, o, rfl, hS, hg, h1, h3 j params[j] (List.getElem?_eq_getElem hj)⟩⟩
  obtain ⟨hmaxp, hrow⟩ := hps
  have HROW := Lib.hid hrow
  have HWR1 := Lib.hid (fun j => wrote_params (params.take j) k1)
  have HM1 := Lib.hid (show k1.words.length = 0 ∧ k1.orders.length = k.orders.length ∧ k1.bodies.length = k.bodies.length by rw [HK1.out]; exact ⟨rfl, rfl, rfl⟩)
  have HHERE := Lib.hid (show k1.here = (k.orders.length : Int) by rw [HK1.out]; rfl)
  obtain ⟨d0, d1, d2, d3, d4⟩ := own5 hbx
  clear hw1 hbx hT1 hrow HW
  go_wp2_with (fail)
  refine (where_any HW1.out).mono ?_
  rintro e w1 ⟨rfl, rfl⟩
  rw [HHERE.out]
  go_wp2_with (fail)
  go_loopw [19] (fun i wr => ∃ j : Nat, j ≤ params.length ∧ i = .int .i64 j ∧ ∃ ovj, WentW Wb (some L) ov ovj w1 wr ∧ Writes B Wb (some L) G F ovj bv (wpAt params j k1) wr) (fun i _ => params.length - (intOf i).toNat)
  case atStart => exact ⟨0, Nat.zero_le _, rfl, ov, .refl _ _ _ _, HW1.out⟩
  case round =>
    obtain ⟨j, hj, rfl, ovj, htr, hcr⟩ := hrel
    have HTR := Lib.hid htr; have HCR := Lib.hid hcr
    have hszr := htr.turn.size
    have hbr := HBXX.out _ _ htr
    obtain ⟨e0, e1, e2, e3, e4⟩ := own5 hbr
    have hszb : w.heap.size < wr.heap.size := by omega
    clear hbr
    by_cases hjl : j < params.length
    · obtain ⟨g, o, rfl, hg, hgl, hcap, hcell⟩ := HROW.out j hjl
      have r0 : wr.cell? ⟨g, o + j, none⟩ = some (.string ⟨(params[j]).toArray⟩) := (htr.turn.cell (show g < w1.heap.size by omega) (fun hx => by have := HLOW.out g hx; omega) _).trans ((HT1.out.turn.cell hgl (fun hx => by
        rcases hx with hx | hx | hx
        · omega
        · have := (HXL.out _ (.inr (.inr hx))).1; omega
        · have := (HW1.out.bod.lt _ hx).1; omega) _).trans hcell)
      have hgr : g < wr.heap.size := by omega
      have HSUC := Lib.hid (wpAt_succ hjl k1)
      have HLEN := Lib.hid (show (params[j]).length ≤ maxLen by have := HSH.out j hjl; unfold maxLen; omega)
      have HLK := Lib.hid (show (wpAt params j k1).words.length ≤ 1000000 by have h1 := (HWR1.out j).words; have h2 := HM1.out.1; have h3 := HROOM.out; have h4 : (params.take j).length ≤ params.length := (by rw [List.length_take]; exact Nat.min_le_right _ _); unfold wpAt; omega)
      generalize params[j] = x at *
      generalize wpAt params j k1 = kj at *
      clear htr hcr hcell
      go_wp2_with (fail)
      refine (know_any HCR.out HLK.out x HLEN.out).mono ?_
      rintro e w3 ⟨rfl, ov3, ht3, hw3⟩
      have HT3 := Lib.hid (HTR.out.trans ht3); have HW3 := Lib.hid hw3
      clear ht3 hw3
      go_wp2_with (fail)
      go_roundw
      case rel => exact ⟨j + 1, by omega, by go_num, ov3, HT3.out, by rw [HSUC.out]; exact HW3.out⟩
      case measure => simp [intOf]; omega
    · obtain rfl : j = params.length := by omega
      have HALL := Lib.hid ((wpAt_all params k1).trans HK2.out.symm)
      rw [HALL.out] at HCR
      have HL2 := Lib.hid (show k2.words.length ≤ params.length ∧ k2.orders.length = k.orders.length ∧ k2.bodies.length = k.bodies.length by
        have h1 := wrote_params params k1
        rw [HK2.out]
        have a1 := h1.words; have a2 := h1.lo; have a3 := h1.hi; have a4 := h1.bod
        exact ⟨by have := HM1.out.1; omega, by have := HM1.out.2.1; omega, by rw [a4]; exact HM1.out.2.2⟩)
      have HBODY := Lib.hid (body_turn (body_turn HB.out HT1.out.turn (fun q hx => by
        rcases hx with hx | hx | hx
        · omega
        · exact (HXL.out _ (.inr (.inr hx))).1
        · exact (HW1.out.bod.lt _ hx).1)) htr.turn HLOW.out)
      clear htr hcr
      go_wp2_with (fail)
      refine (wblocks_ok body HFIT.out HGD.out _ _ _ _ _ _ _ _ _ _ HCR.out (by have := HL2.out.2.1; have := HZ.out; omega) (by have := HL2.out.1; have := HROOM.out; omega) HBODY.out).mono ?_
      rintro e w4 ⟨rfl, ov4, ht4, hw4⟩
      rw [← HK3.out] at hw4
      have HT4 := Lib.hid (HTR.out.trans ht4); have HW4 := Lib.hid hw4
      have HL3 := Lib.hid (show k3.orders.length ≤ k.orders.length + Sm.wts body ∧ k3.bodies.length = k.bodies.length by
        have h1 := wrote_block body k2
        rw [HK3.out]
        exact ⟨by have := h1.hi; have := HL2.out.2.1; omega, by rw [h1.bod]; exact HL2.out.2.2⟩)
      clear ht4 hw4 e0 e1 e2 e3 e4
      go_wp2_with (fail)
      refine (wnumber_any HW4.out (by have := HL3.out.1; have := HZ.out; omega) 0).mono ?_
      rintro e w5 ⟨rfl, ov5, ht5, hw5⟩
      have HT5 := Lib.hid (HT4.out.trans ht5); have HW5 := Lib.hid hw5
      have HK4 := Lib.hid (show (k3.add 1 0).orders.length = k3.orders.length + 1 by simp [Wr.add])
      clear ht5 hw5
      go_wp2_with (fail)
      refine (wadd_any HW5.out (by have := HK4.out; have := HL3.out.1; have := HZ.out; omega) 16 0).mono ?_
      rintro e w6 ⟨rfl, ov6, ht6, hw6⟩
      have ht6' := HT5.out.trans ht6
      have HT6 := Lib.hid ht6'; have HW6 := Lib.hid hw6
      obtain ⟨e0, e1, e2, e3, e4⟩ := own5 (HBXX.out _ _ ht6')
      have hb6 : w.heap.size < w6.heap.size := by have := ht6'.turn.size; omega
      have hW6 := hw6.lt
      obtain ⟨_, c1, _, _, _, c5, hf⟩ := hw6.open
      have f1 := hf 1
      have HLB := Lib.hid (show ((k3.add 1 0).add 16 0).bodies.length ≤ 1099511627776 by have h1 := HL3.out.2; have h2 := HZB.out; show k3.bodies.length ≤ _; omega)
      obtain ⟨k6, hk6⟩ : ∃ k6, k6 = (k3.add 1 0).add 16 0 := ⟨_, rfl⟩
      rw [← hk6] at HW6 HLB c5
      have HK6 := Lib.hid hk6
      clear ht6 hw6 ht6' hf hk6
      obtain ⟨bva, bvc, rfl, hbvc⟩ := own_slice HW6.out.bod
      have hbn := HLB.out
      go_upto_region 11 with (fail)
      go_region_law (first | (refine step_append_lies _ rfl _ _ 86 rfl B 115 i0 (.agg #[.int .i64 0, .int .i64 0, .int .i64 0]) 3 24 Tryz.underlying86 HI.out HZ0.out HZ1.out HZ2.out rfl (by decide) (.slice bva k6.bodies.length bvc) k6.bodies.length (boCells k6.bodies) rfl ?hown ⟨w6.heap.size, 0, none⟩ 1 1 [.int .i64 k.orders.length, .int .i64 params.length, .int .i64 k6.most] rfl rfl ?hnews (bo_one _ _ _) (by decide) ?h63 ?hby ?hba (w6.heap.size + 1) ?hH ?_; (case hown => exact HW6.out.drew.bod.alloc _); (case hnews => exact cells_at _ [.int .i64 k.orders.length, .int .i64 params.length, .int .i64 k6.most] _ _ rfl); (case h63 => unfold maxLen; omega); (case hby => omega); (case hba => simp; omega); (case hH => simp); intro gb gc2 wB hown hgrow hat hlt2; have HFIN := Lib.hid ((HW6.out.drew.alloc _).moreB ⟨k.orders.length, params.length, k6.most⟩ hgrow hown); have HAT := Lib.hid hat; have x1 : wB.cell? ⟨Wb, 1, none⟩ = some (.slice bva k6.bodies.length bvc) := (World.cell?_of_block (hgrow.block Wb (by simp; omega) (fun e => own_ne HW6.out.bod HW6.out.blk (by decide) _ e.symm rfl))).trans ((World.cell?_of_block (Below.heap_alloc w6.drew _ Wb hW6)).trans c1); have x2 : wB.frozen? ⟨Wb, 1, none⟩ = false := (World.frozen?_of_block (hgrow.block Wb (by simp; omega) (fun e => own_ne HW6.out.bod HW6.out.blk (by decide) _ e.symm rfl))).trans ((World.frozen?_of_block (Below.heap_alloc w6.drew _ Wb hW6)).trans f1); have x3 : Wb < wB.heap.size := (by have := hgrow.size; simp at this; omega); clear hown hgrow hat))
      all_goals go_wp2_with (fail)
      all_goals go_end0
      all_goals
        refine ⟨rfl, some L, ov6, .slice (some ⟨gb, 0, none⟩) (k6.bodies.length + 1) gc2, WentF.trans ((HT1.out.went HT6.out (by omega)).drew.alloc _) (WentF.mk HFIN.out.2 (fun q hq => Or.inl hq) (fun q hq => ?_)), ?_⟩
        · cases hq
          rcases HAT.out with h | h
          · exact .inl h
          · exact .inr (by show _ ≤ gb; simp; omega)
        · rw [← HK6.out]; exact HFIN.out.1
end Go.Proofs.YtaomlahphlemdaaGreatDoor

namespace Go.Proofs.YtaomlahphlemdaaGreatDoor
open Go.ChangeShapes Go.WideShapes Go.ChangeAt Go.RowKit
set_option linter.unusedVariables false

def wrTot : List Fn → Nat
  | [] => 0
  | f :: r => Sm.wts f.body + 2 + wrTot r
/-- What the writer asks for is there, and there is room. -/
def prGood (p : Pr) : Bool := p.funcs.all (fun f => Sm.goods f.body) && decide (wrTot p.funcs ≤ 1099511627776)
theorem func_len (f : Fn) (k : Wr) : (wrFunc f k).orders.length ≤ k.orders.length + (Sm.wts f.body + 2) ∧ (wrFunc f k).bodies.length = k.bodies.length + 1 := by
  have h1 := wrote_params f.params { k with words := [], most := 0 }
  have h2 := wrote_block f.body (wrParams f.params { k with words := [], most := 0 })
  have h3 := wrote_add (wrBlock f.body (wrParams f.params { k with words := [], most := 0 })) 1 0
  have h4 := wrote_add ((wrBlock f.body (wrParams f.params { k with words := [], most := 0 })).add 1 0) 16 0
  have hh := ((h1.trans h2).trans h3).trans h4
  refine ⟨by have := hh.hi; simp only [wrFunc] at this ⊢; simp at this; omega, ?_⟩
  show (_ ++ [_]).length = _
  rw [List.length_append, hh.bod]; rfl
theorem wrFuncs_snoc : ∀ (l : List Fn) (f : Fn) (k : Wr), wrFuncs (l ++ [f]) k = wrFunc f (wrFuncs l k)
  | [], f, k => by simp [wrFuncs]
  | a :: l, f, k => by simp only [List.cons_append, wrFuncs]; exact wrFuncs_snoc l f _
def wfAt (l : List Fn) (i : Nat) (k : Wr) : Wr := wrFuncs (l.take i) k
theorem wfAt_succ {l : List Fn} {i : Nat} (h : i < l.length) (k : Wr) : wfAt l (i + 1) k = wrFunc l[i] (wfAt l i k) := by
  unfold wfAt; rw [List.take_succ_eq_append_getElem h, wrFuncs_snoc]
theorem wfAt_all (l : List Fn) (k : Wr) : wfAt l l.length k = wrFuncs l k := by unfold wfAt; rw [List.take_length]
theorem funcs_len : ∀ (l : List Fn) (k : Wr), (wrFuncs l k).orders.length ≤ k.orders.length + wrTot l ∧ (wrFuncs l k).bodies.length = k.bodies.length + l.length
  | [], k => ⟨by simp [wrFuncs, wrTot], rfl⟩
  | f :: r, k => by
    rw [wrFuncs, wrTot]
    have h1 := func_len f k
    have h2 := funcs_len r (wrFunc f k)
    exact ⟨by omega, by rw [h2.2, h1.2]; simp; omega⟩
theorem tot_append : ∀ (a b : List Fn), wrTot (a ++ b) = wrTot a + wrTot b
  | [], b => by simp [wrTot]
  | s :: r, b => by simp only [List.cons_append, wrTot, tot_append r b]; omega
theorem tot_take {l : List Fn} {j : Nat} (h : j < l.length) : wrTot (l.take j) + (Sm.wts (l[j]).body + 2) ≤ wrTot l := by
  have e : l = l.take j ++ l.drop j := (List.take_append_drop j l).symm
  have h2 : l.drop j = l[j] :: l.drop (j + 1) := List.drop_eq_getElem_cons h
  have h3 : wrTot l = wrTot (l.take j) + wrTot (l.drop j) := by rw [← tot_append, ← e]
  rw [h3, h2, wrTot]; omega
theorem tot_len : ∀ l : List Fn, l.length ≤ wrTot l
  | [] => Nat.le_refl _
  | f :: r => by have := tot_len r; simp only [wrTot, List.length_cons]; omega
/-- What laidFlat answers: the orders and the bodies, in memory of their own. -/
def LPost (k : Wr) (w : World) (e : Ending) (w' : World) : Prop := ∃ ov bv, e = .returned (.agg #[ov, bv]) ∧ w.grownBy w' none ∧ w'.ownsRow w.heap.size 120 2 ov k.orders.length (odCells k.orders) ∧ w'.ownsRow w.heap.size 115 3 bv k.bodies.length (boCells k.bodies)
set_option maxHeartbeats 8000000 in
set_option maxRecDepth 100000 in
theorem laidFlat_any {p : Pr} (hfit : prFit p = true) (hgood : prGood p = true) {w : World} {cs : Array Value} (hat : p.At w (· < w.heap.size) cs) {G F : Nat} {gm fm : NMap} (hG : NM 3 w G gm) (hF : NM 3 w F fm) :
    Calls Tryz.prog 26 #[.agg cs, .agg #[.map (some G), .map (some F)]] w (LPost (planOf p gm fm) w) := by
  obtain ⟨gv, fv, rfl, hgl, hfn⟩ := hat
  obtain ⟨ga, gn, gc, rfl⟩ := hgl.slice
  obtain ⟨fa, fcap, rfl, hfmax, hrow⟩ := fn_cells hfn
  have HFIT := Lib.hid hfit; have HROW := Lib.hid hrow; have HG := Lib.hid hG; have HF := Lib.hid hF
  have HGOOD := Lib.hid (show (∀ i (h : i < p.funcs.length), Sm.goods (p.funcs[i]).body = true) ∧ wrTot p.funcs ≤ 1099511627776 by
    unfold prGood at hgood
    rw [Bool.and_eq_true] at hgood
    exact ⟨fun i h => List.all_eq_true.1 hgood.1 _ (List.getElem_mem h), of_decide_eq_true hgood.2⟩)
  have hGlt := hG.lt; have hFlt := hF.lt
  clear hgl hfn hfit hrow hG hF hgood
  go_enter Tryz.func26, Tryz.ntmps26
  go_upto_region 2 with (fail)
  have hgr : w.grownBy ((((w.alloc (.cells #[.slice ga gn gc, .slice fa p.funcs.length fcap] 25)).alloc (.cells #[.map (some G), .map (some F)] 81)).alloc (.cells #[.slice none 0 0, .slice none 0 0] 88)).alloc (.cells #[.slice none 0 0, .slice none 0 0, .map (some G), .map (some F), .map none, .int .i64 0] 112)) none := grown_trans (grown_trans (grown_trans (grown_alloc _ _) (grown_alloc _ _)) (grown_alloc _ _)) (grown_alloc _ _)
  have hb2 : ((((w.alloc (.cells #[.slice ga gn gc, .slice fa p.funcs.length fcap] 25)).alloc (.cells #[.map (some G), .map (some F)] 81)).alloc (.cells #[.slice none 0 0, .slice none 0 0] 88)).alloc (.cells #[.slice none 0 0, .slice none 0 0, .map (some G), .map (some F), .map none, .int .i64 0] 112)).heap[w.heap.size + 1 + 1]? = some (.cells #[.slice none 0 0, .slice none 0 0] 88 (0, 0)) := alloc_past _ _ _ _ (by simp) (alloc_at _ _ _ (by simp))
  have hb3 : ((((w.alloc (.cells #[.slice ga gn gc, .slice fa p.funcs.length fcap] 25)).alloc (.cells #[.map (some G), .map (some F)] 81)).alloc (.cells #[.slice none 0 0, .slice none 0 0] 88)).alloc (.cells #[.slice none 0 0, .slice none 0 0, .map (some G), .map (some F), .map none, .int .i64 0] 112)).heap[w.heap.size + 1 + 1 + 1]? = some (.cells #[.slice none 0 0, .slice none 0 0, .map (some G), .map (some F), .map none, .int .i64 0] 112 (0, 0)) := alloc_at _ _ _ (by simp)
  have hb0 : ((((w.alloc (.cells #[.slice ga gn gc, .slice fa p.funcs.length fcap] 25)).alloc (.cells #[.map (some G), .map (some F)] 81)).alloc (.cells #[.slice none 0 0, .slice none 0 0] 88)).alloc (.cells #[.slice none 0 0, .slice none 0 0, .map (some G), .map (some F), .map none, .int .i64 0] 112)).heap[w.heap.size]? = some (.cells #[.slice ga gn gc, .slice fa p.funcs.length fcap] 25 (0, 0)) := alloc_past _ _ _ _ (by simp; omega) (alloc_past _ _ _ _ (by simp; omega) (alloc_past _ _ _ _ (by simp) (alloc_at _ _ _ rfl)))
  generalize ((((w.alloc (.cells #[.slice ga gn gc, .slice fa p.funcs.length fcap] 25)).alloc (.cells #[.map (some G), .map (some F)] 81)).alloc (.cells #[.slice none 0 0, .slice none 0 0] 88)).alloc (.cells #[.slice none 0 0, .slice none 0 0, .map (some G), .map (some F), .map none, .int .i64 0] 112)) = W at *
  obtain ⟨k0, hk0⟩ : ∃ k0 : Wr, k0 = ⟨[], [], gm, fm, [], 0⟩ := ⟨_, rfl⟩
  have hw0 : Writes w.heap.size (w.heap.size + 1 + 1 + 1) none G F (.slice none 0 0) (.slice none 0 0) k0 W := by
    rw [hk0]
    exact ⟨hb3, World.ownsRow_nil _ _ _ _, World.ownsRow_nil _ _ _ _, HG.out.keep (hgr.block G hGlt (by simp)), HF.out.keep (hgr.block F hFlt (by simp)), fun L hL => (by cases hL), by omega⟩
  have HE := Lib.hid (show planOf p gm fm = wrFuncs p.funcs k0 by rw [hk0]; rfl)
  have HLEN := Lib.hid (show k0.orders.length = 0 ∧ k0.bodies.length = 0 by rw [hk0]; exact ⟨rfl, rfl⟩)
  have hsz : w.heap.size + 1 + 1 + 1 < W.heap.size := hw0.lt
  have HGR := Lib.hid hgr; have HB2 := Lib.hid hb2; have HW0 := Lib.hid hw0
  obtain ⟨⟨p0, p1⟩, _, _⟩ := two hb0
  have hz0 : w.heap.size < W.heap.size := by omega
  clear hgr hb2 hb3 hb0 hw0 hk0
  go_wp2_with (fail)
  go_loopw [14] (fun i wr => ∃ j : Nat, j ≤ p.funcs.length ∧ i = .int .i64 j ∧ ∃ M ov bv, WentF (w.heap.size + 1 + 1 + 1) (.slice none 0 0) ov (.slice none 0 0) bv W wr ∧ Writes w.heap.size (w.heap.size + 1 + 1 + 1) M G F ov bv (wfAt p.funcs j k0) wr) (fun i _ => p.funcs.length - (intOf i).toNat)
  case atStart => exact ⟨0, Nat.zero_le _, rfl, none, _, _, WentF.refl _ _ _ _, HW0.out⟩
  case round =>
    obtain ⟨j, hj, rfl, M, ov, bv, htr, hwr⟩ := hrel
    have HTR := Lib.hid htr; have HWR := Lib.hid hwr
    have hszr := htr.turn.size
    have HKEEP := Lib.hid (show ∀ q, q < w.heap.size → wr.heap[q]? = w.heap[q]? from fun q hq => (htr.turn.block q (by omega) (fun hx => by
      rcases hx with hx | hx | hx
      · omega
      · cases hx
      · cases hx)).trans (HGR.out.block q hq (by simp)))
    by_cases hjl : j < p.funcs.length
    · obtain ⟨g, o, pa, pc, ba, bn, bc, rfl, hg, hgl, hcap, hps, hbs, hcl⟩ := HROW.out j hjl
      have hg' : g < w.heap.size := hg
      have hkeep : ∀ g, g < w.heap.size → g < w.heap.size → ∀ o, wr.cell? ⟨g, o, none⟩ = w.cell? ⟨g, o, none⟩ := fun q hq _ o => World.cell?_of_block (HKEEP.out q hq)
      have hold : ∀ q, q < 5 → wr.cell? ⟨g, o + j * 5 + q, none⟩ = (cellsF p.funcs[j].name (.slice pa p.funcs[j].params.length pc) (.slice ba bn bc) p.funcs[j].line p.funcs[j].col)[q]? := fun q hq => (hkeep g hg' hg' _).trans (hcl q hq)
      have hgr : g < wr.heap.size := by omega
      have hzr : w.heap.size ≤ wr.heap.size := by omega
      have hpr : StrsAt wr (· < w.heap.size) p.funcs[j].params (.slice pa p.funcs[j].params.length pc) := hps.keep hzr (fun g hg _ => hg) hkeep
      have hbr : BodyAt wr (· < w.heap.size) p.funcs[j].body (.slice ba bn bc) := hbs.keep (fun g hg _ => hg) hkeep
      have HSUC := Lib.hid (wfAt_succ hjl k0)
      obtain ⟨_, f2, f3, f4⟩ := fit_fn HFIT.out j hjl
      have HF2 := Lib.hid f2; have HF3 := Lib.hid f3; have HF4 := Lib.hid f4; have HPR := Lib.hid hpr; have HBR := Lib.hid hbr
      have HF5 := Lib.hid (HGOOD.out.1 j hjl)
      have HZ := Lib.hid (show (wfAt p.funcs j k0).orders.length + Sm.wts (p.funcs[j]).body + 2 ≤ 1099511627776 ∧ (wfAt p.funcs j k0).bodies.length ≤ 1099511627776 by
        have h1 := funcs_len (p.funcs.take j) k0
        have h2 := tot_take hjl
        have h3 := HGOOD.out.2
        have h4 := HLEN.out
        have h5 := tot_len p.funcs
        have h6 : (p.funcs.take j).length ≤ p.funcs.length := by rw [List.length_take]; exact Nat.min_le_right _ _
        unfold wfAt
        exact ⟨by omega, by omega⟩)
      clear hps hbs hkeep hcl f2 f3 f4 hpr hbr
      generalize hx : p.funcs[j] = x at *
      generalize wfAt p.funcs j k0 = kj at *
      clear hx
      obtain ⟨name, params, body, line, col⟩ := x
      have r0 : wr.cell? ⟨g, o + j * 5, none⟩ = some (.string ⟨name.toArray⟩) := hold 0 (by decide)
      have r1 : wr.cell? ⟨g, o + j * 5 + 1, none⟩ = some (.slice pa params.length pc) := hold 1 (by decide)
      have r2 : wr.cell? ⟨g, o + j * 5 + 2, none⟩ = some (.slice ba bn bc) := hold 2 (by decide)
      have r3 : wr.cell? ⟨g, o + j * 5 + 3, none⟩ = some (.int .i64 line) := hold 3 (by decide)
      have r4 : wr.cell? ⟨g, o + j * 5 + 4, none⟩ = some (.int .i64 col) := hold 4 (by decide)
      clear htr hwr hold
      go_wp2_with (fail)
      refine (function_w (f := ⟨name, params, body, line, col⟩) HF2.out HF3.out HF5.out HF4.out (by simp; omega) (HWR.out.alloc (.cells #[.string ⟨name.toArray⟩, .slice pa params.length pc, .slice ba bn bc, .int .i64 line, .int .i64 col] 58)) HZ.out.1 HZ.out.2 (HPR.out.keep (by simp) (fun g hg _ => hg) (fun g _ hg o => World.cell?_of_block (Below.heap_alloc _ _ _ hg))) (HBR.out.keep (fun g hg _ => hg) (fun g _ hg o => World.cell?_of_block (Below.heap_alloc _ _ _ hg)))).mono ?_
      rintro e w5 ⟨rfl, M5, ov5, bv5, ht5, hw5⟩
      have HT5 := Lib.hid ((HTR.out.alloc (.cells #[.string ⟨name.toArray⟩, .slice pa params.length pc, .slice ba bn bc, .int .i64 line, .int .i64 col] 58)).trans ht5)
      have HW5 := Lib.hid hw5
      clear ht5 hw5
      go_wp2_with (fail)
      go_roundw
      case rel => exact ⟨j + 1, by omega, by go_num, M5, ov5, bv5, HT5.out, by rw [HSUC.out]; exact HW5.out⟩
      case measure => simp [intOf]; omega
    · obtain rfl : j = p.funcs.length := by omega
      have HALL := Lib.hid (wfAt_all p.funcs k0)
      rw [HALL.out] at HWR hwr
      obtain ⟨c0, c1, _⟩ := hwr.open
      have hlr := hwr.lt
      have hpl := ((htr.turn.block (w.heap.size + 1 + 1) (by omega) (fun hx => by
        rcases hx with hx | hx | hx
        · omega
        · cases hx
        · cases hx)).trans HB2.out)
      have HNE1 := Lib.hid (own_ne hwr.ord hpl (by decide)); have HNE2 := Lib.hid (own_ne hwr.bod hpl (by decide))
      obtain ⟨⟨q0, q1⟩, qf0, qf1⟩ := two hpl
      have hl2 : w.heap.size + 1 + 1 < wr.heap.size := by omega
      obtain ⟨oa, ocap, rfl, _⟩ := own_slice hwr.ord
      obtain ⟨ba, bcap, rfl, _⟩ := own_slice hwr.bod
      have HG9 := Lib.hid (show w.grownBy wr none from ⟨htr.turn.os.trans HGR.out.os, htr.turn.tape.trans HGR.out.tape, htr.turn.output.trans HGR.out.output, by omega, fun q hq _ => HKEEP.out q hq⟩)
      clear htr hwr hpl
      go_wp2_with (fail)
      refine bodyPost_ret (v := .agg #[.slice oa (wrFuncs p.funcs k0).orders.length ocap, .slice ba (wrFuncs p.funcs k0).bodies.length bcap]) (by simp [results, Tryz.results26, go_sem, q0, q1]) rfl ?_
      refine ⟨_, _, rfl, ?_, ?_, ?_⟩
      · repeat (first | with_reducible (refine grown_drew ?_) | with_reducible (refine grown_put ?_ _ _ (by omega)) | with_reducible (refine grown_trans ?_ (grown_alloc _ _)) | with_reducible (exact HG9.out))
      · rw [HE.out]; refine own_keep HWR.out.ord (fun q hq => ?_)
        have hne : q ≠ w.heap.size + 1 + 1 := fun e => by
          exact HNE1.out q hq e
        rw [Below.heap_setCell _ _ _ _ (by show q ≠ w.heap.size + 1 + 1; exact hne), Below.heap_setCell _ _ _ _ (by show q ≠ w.heap.size + 1 + 1; exact hne)]
      · rw [HE.out]; refine own_keep HWR.out.bod (fun q hq => ?_)
        have hne : q ≠ w.heap.size + 1 + 1 := fun e => by
          exact HNE2.out q hq e
        rw [Below.heap_setCell _ _ _ _ (by show q ≠ w.heap.size + 1 + 1; exact hne), Below.heap_setCell _ _ _ _ (by show q ≠ w.heap.size + 1 + 1; exact hne)]
end Go.Proofs.YtaomlahphlemdaaGreatDoor
