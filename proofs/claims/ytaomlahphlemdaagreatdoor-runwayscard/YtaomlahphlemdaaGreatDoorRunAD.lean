/-
  The runner: follow: every order.
  Start: the globals' words.
  Run.
-/
import Derived.Test.YtaomlahphlemdaaGreatDoorRunAA
import Derived.Test.YtaomlahphlemdaaGreatDoorRunV
import Derived.Deep.OwnRows
import Derived.Laws.CopyOwn
import Derived.Test.YtaomlahphlemdaaGreatDoorRunJ
namespace Go.Proofs.YtaomlahphlemdaaGreatDoor
open Go.ChangeShapes Go.WideShapes Go.ChangeAt Go.RowKit
set_option linter.unusedVariables false

set_option maxHeartbeats 8000000 in
set_option maxRecDepth 100000 in
theorem follow_deep {B Rb : Nat} {ov bv : Value} {mg : Nat} {gs : List Nat} {v : RV} {r : Rn} {w : World} (h : Runs B Rb ov bv mg gs v r w) (hnx : r.next ≤ 1099511627776) (n : Int) (j : Nat) (hn : n = (j : Int)) (ho : r.orders[r.next]? = some ⟨15, n⟩) (r0 r' : Rn) (hr0 : r0 = { r with next := r.next + 1 }) (hd : 2000 ≤ r0.calls.length) (hd2 : r0.calls.length ≤ 1099511627776) (hres : r' = r0.fail) :
    Calls Tryz.prog 29 #[.pointer (some ⟨Rb, 0, none⟩)] w (RPost B Rb ov bv mg gs v r' (.tuple #[]) w) := by
  have HR := Lib.hid h; have HRES := Lib.hid hres
  have hlt := h.lt
  obtain ⟨og, ocap, rfl, hocap, homx, hfl, hogl, x0, x1⟩ := h.orderAt _ _ ho
  obtain ⟨⟨c0, _, c2, _⟩, hfz⟩ := h.open
  have f2 := hfz 2
  dsimp only at x0 x1
  generalize hxx : r.next = nx at *
  have b1 : IntKind.i64.wrap ((nx : Int) + 1) = ((nx + 1 : Nat) : Int) := by rw [IntWalk.i64_in _ (by omega)]; omega
  obtain ⟨hw0, ht0⟩ := h.cell 2 (.int .i64 ((nx : Int) + 1)) r0 (by rw [hr0]; rfl) (by rw [hr0]) (by rw [hr0]) (by rw [hr0]) (by rw [hr0]) (by rw [hr0]) (by rw [hr0])
  have HW := Lib.hid ((hw0.alloc (.cells #[.int .i64 15, .int .i64 n] 120)).drew)
  have HTW := Lib.hid ((ht0.alloc (.cells #[.int .i64 15, .int .i64 n] 120)).drew)
  have HBX := Lib.hid (fun (v' : RV) (w' : World) (ht : WentR Rb gs v v' (((w.setCell ⟨Rb, 2, none⟩ (.int .i64 ((nx : Int) + 1))).alloc (.cells #[.int .i64 15, .int .i64 n] 120)).drew) w') => two ((ht.turn.block w.heap.size (by show w.heap.size < ((w.setCell ⟨Rb, 2, none⟩ (.int .i64 ((nx : Int) + 1))).alloc (.cells #[.int .i64 15, .int .i64 n] 120)).heap.size; simp) (fun hx => by have := (h.xlow _ hx).2; omega)).trans (show ((w.setCell ⟨Rb, 2, none⟩ (.int .i64 ((nx : Int) + 1))).alloc (.cells #[.int .i64 15, .int .i64 n] 120)).heap[w.heap.size]? = _ from alloc_at _ _ _ (by simp))))
  have HSZ := Lib.hid (show w.heap.size < (((w.setCell ⟨Rb, 2, none⟩ (.int .i64 ((nx : Int) + 1))).alloc (.cells #[.int .i64 15, .int .i64 n] 120)).drew).heap.size by show w.heap.size < ((w.setCell ⟨Rb, 2, none⟩ (.int .i64 ((nx : Int) + 1))).alloc (.cells #[.int .i64 15, .int .i64 n] 120)).heap.size; simp)
  have HR0 := Lib.hid hr0
  clear h hfz ho hxx hr0 hw0 ht0 hres
  go_enter Tryz.func29, Tryz.ntmps29
  go_wp2_with (fail)
  go_region
  subst hn
  obtain ⟨⟨y0, y1⟩, yf0, yf1⟩ := HBX.out _ _ (WentR.refl _ _ _ _)
  have hbs := HSZ.out
  go_wp2_with (fail)
  generalize ((w.setCell ⟨Rb, 2, none⟩ (.int .i64 ((nx : Int) + 1))).alloc (.cells #[.int .i64 15, .int .i64 ((j : Nat) : Int)] 120)).drew = W at *
  refine (enter_deep HW.out hd hd2 (j : Int)).mono ?_
  rintro e w9 ⟨rfl, v9, ht9, hr9⟩
  have HT9 := Lib.hid (HTW.out.trans ht9); have HR9 := Lib.hid hr9
  clear ht9 hr9
  go_wp2_with (fail)
  go_end0
  exact ⟨rfl, v9, HT9.out, by rw [HRES.out]; exact HR9.out⟩
set_option maxHeartbeats 8000000 in
set_option maxRecDepth 100000 in
theorem follow_enter {B Rb : Nat} {ov bv : Value} {mg : Nat} {gs : List Nat} {v : RV} {r : Rn} {w : World} (h : Runs B Rb ov bv mg gs v r w) (hnx : r.next ≤ 1099511627776) (n : Int) (j : Nat) (hn : n = (j : Int)) (ho : r.orders[r.next]? = some ⟨15, n⟩) (r0 r' : Rn) (hr0 : r0 = { r with next := r.next + 1 }) (hd : r0.calls.length < 2000) (hf : j < r0.bodies.length) (st pn wn : Nat) (hb : r0.bodies[j] = ⟨(st : Int), (pn : Int), (wn : Int)⟩) (hpw : pn ≤ wn) (hpl : pn ≤ r0.pile.length) (hwn : wn ≤ 1099511627776) (hst : st ≤ 1099511627776) (hz : r0.pile.length ≤ 1099511627776) (hnx0 : r0.next ≤ 1099511627776) (hres : r' = { r0 with calls := r0.calls ++ [(r0.pile.length - pn, r0.next)], deep := max r0.deep ((r0.calls.length + 1 : Nat) : Int), pile := r0.pile ++ List.replicate (wn - pn) 0, next := st }) :
    Calls Tryz.prog 29 #[.pointer (some ⟨Rb, 0, none⟩)] w (RPost B Rb ov bv mg gs v r' (.tuple #[]) w) := by
  have HR := Lib.hid h; have HRES := Lib.hid hres
  have hlt := h.lt
  obtain ⟨og, ocap, rfl, hocap, homx, hfl, hogl, x0, x1⟩ := h.orderAt _ _ ho
  obtain ⟨⟨c0, _, c2, _⟩, hfz⟩ := h.open
  have f2 := hfz 2
  dsimp only at x0 x1
  generalize hxx : r.next = nx at *
  have b1 : IntKind.i64.wrap ((nx : Int) + 1) = ((nx + 1 : Nat) : Int) := by rw [IntWalk.i64_in _ (by omega)]; omega
  obtain ⟨hw0, ht0⟩ := h.cell 2 (.int .i64 ((nx : Int) + 1)) r0 (by rw [hr0]; rfl) (by rw [hr0]) (by rw [hr0]) (by rw [hr0]) (by rw [hr0]) (by rw [hr0]) (by rw [hr0])
  have HW := Lib.hid ((hw0.alloc (.cells #[.int .i64 15, .int .i64 n] 120)).drew)
  have HTW := Lib.hid ((ht0.alloc (.cells #[.int .i64 15, .int .i64 n] 120)).drew)
  have HBX := Lib.hid (fun (v' : RV) (w' : World) (ht : WentR Rb gs v v' (((w.setCell ⟨Rb, 2, none⟩ (.int .i64 ((nx : Int) + 1))).alloc (.cells #[.int .i64 15, .int .i64 n] 120)).drew) w') => two ((ht.turn.block w.heap.size (by show w.heap.size < ((w.setCell ⟨Rb, 2, none⟩ (.int .i64 ((nx : Int) + 1))).alloc (.cells #[.int .i64 15, .int .i64 n] 120)).heap.size; simp) (fun hx => by have := (h.xlow _ hx).2; omega)).trans (show ((w.setCell ⟨Rb, 2, none⟩ (.int .i64 ((nx : Int) + 1))).alloc (.cells #[.int .i64 15, .int .i64 n] 120)).heap[w.heap.size]? = _ from alloc_at _ _ _ (by simp))))
  have HSZ := Lib.hid (show w.heap.size < (((w.setCell ⟨Rb, 2, none⟩ (.int .i64 ((nx : Int) + 1))).alloc (.cells #[.int .i64 15, .int .i64 n] 120)).drew).heap.size by show w.heap.size < ((w.setCell ⟨Rb, 2, none⟩ (.int .i64 ((nx : Int) + 1))).alloc (.cells #[.int .i64 15, .int .i64 n] 120)).heap.size; simp)
  have HR0 := Lib.hid hr0
  clear h hfz ho hxx hr0 hw0 ht0 hres
  go_enter Tryz.func29, Tryz.ntmps29
  go_wp2_with (fail)
  go_region
  have HBD := Lib.hid hb
  clear hb
  subst hn
  obtain ⟨⟨y0, y1⟩, yf0, yf1⟩ := HBX.out _ _ (WentR.refl _ _ _ _)
  have hbs := HSZ.out
  go_wp2_with (fail)
  generalize ((w.setCell ⟨Rb, 2, none⟩ (.int .i64 ((nx : Int) + 1))).alloc (.cells #[.int .i64 15, .int .i64 ((j : Nat) : Int)] 120)).drew = W at *
  refine (enter_ok HW.out hd j hf st pn wn HBD.out hpw hpl hwn hst hz hnx0 r' HRES.out).mono ?_
  rintro e w9 ⟨rfl, v9, ht9, hr9⟩
  have HT9 := Lib.hid (HTW.out.trans ht9); have HR9 := Lib.hid hr9
  clear ht9 hr9
  go_wp2_with (fail)
  go_end0
  exact ⟨rfl, v9, HT9.out, HR9.out⟩
/-- enter, where it is asked as it should be. -/
def Rn.into (r : Rn) (f : Int) : Option Rn :=
  if 0 ≤ f then
    if 2000 ≤ r.calls.length then some r.fail
    else
      match r.bodies[f.toNat]? with
      | some b =>
        if 0 ≤ b.start ∧ 0 ≤ b.params ∧ b.params ≤ b.words ∧ b.params ≤ r.pile.length ∧ b.words ≤ 1099511627776 ∧ b.start ≤ 1099511627776 then
          some { r with calls := r.calls ++ [((r.pile.length - b.params.toNat : Nat), r.next)], deep := max r.deep (r.calls.length + 1 : Nat), pile := r.pile ++ List.replicate (b.words - b.params).toNat 0, next := b.start.toNat }
        else none
      | none => none
  else none
def Rn.turns (r : Rn) (o : Od) : Option Rn :=
  if 0 ≤ o.n then
    if o.deed = 11 then some { r with next := o.n.toNat }
    else if o.deed = 12 then
      match r.pick with
      | some (v, q) => if v = 0 then some { q.which false with next := o.n.toNat } else some (q.which true)
      | none => none
    else if o.deed = 13 then
      match r.pick with
      | some (v, q) => if v = 0 then some { (q.which false).lay v with next := o.n.toNat } else some (q.which true)
      | none => none
    else if o.deed = 14 then
      match r.pick with
      | some (v, q) => if v = 0 then some (q.which false) else some { (q.which true).lay v with next := o.n.toNat }
      | none => none
    else none
  else none
/-- One order. -/
def Rn.does (r : Rn) : Option Rn :=
  match r.orders[r.next]? with
  | none => none
  | some o =>
    let q : Rn := { r with next := r.next + 1 }
    if o.deed = 0 then some q.step
    else if o.deed = 1 then some (q.lay o.n)
    else if o.deed = 2 then q.getLocal o.n
    else if o.deed = 3 then q.setLocal o.n
    else if o.deed = 4 then q.getWord o.n
    else if o.deed = 5 then q.setWord o.n
    else if o.deed = 6 then q.getItem o.n
    else if o.deed = 7 then q.putItem o.n
    else if o.deed = 8 then q.both o.n
    else if o.deed = 9 then (q.pick).map fun x => x.2.lay (wrap64 (1 - x.1))
    else if o.deed = 10 then (q.pick).map fun x => x.2
    else if o.deed = 15 then q.into o.n
    else if o.deed = 16 then q.leave
    else q.turns o
def inI (x : Int) : Bool := decide (-9223372036854775808 ≤ x) && decide (x ≤ 9223372036854775807)
theorem inI_of {x : Int} (h : inI x = true) : InI64 x := by unfold inI at h; simpa [InI64] using h
/-- The runner is of a size at which nothing overflows. -/
def okR (r : Rn) : Bool :=
  decide (r.next ≤ 1099511627775) && decide (r.pile.length ≤ 1099511627776) && decide (r.leaks.length ≤ 1099511627775) && decide (0 ≤ r.steps) && decide (r.steps ≤ 1099511627776) && r.pile.all inI && r.calls.all (fun c => decide (c.1 ≤ 1099511627776) && decide (c.2 ≤ 1099511627776)) && decide (r.calls.length ≤ 1099511627776) && r.mem.all (fun ws => decide (ws.length ≤ 1099511627776))
theorem pick_some {r q : Rn} {x : Int} (h : r.pick = some (x, q)) : ∃ xs, r.pile = xs ++ [x] ∧ q = { r with pile := xs } := by
  unfold Rn.pick at h
  cases hl : r.pile.getLast? with
  | none => rw [hl] at h; cases h
  | some v =>
    rw [hl] at h
    simp only [Option.some.injEq, Prod.mk.injEq] at h
    obtain ⟨rfl, rfl⟩ := h
    obtain ⟨xs, hxs⟩ := List.getLast?_eq_some_iff.1 hl
    exact ⟨xs, hxs, by rw [hxs]; simp⟩
theorem place_some {r : Rn} {n : Int} {p : Nat} (h : r.place n = some p) : ∃ cs c j, r.calls = cs ++ [c] ∧ n = ((j : Nat) : Int) ∧ j ≤ 1099511627776 ∧ p = c.1 + j := by
  unfold Rn.place at h
  cases hl : r.calls.getLast? with
  | none => rw [hl] at h; cases h
  | some c =>
    rw [hl] at h
    obtain ⟨cs, hcs⟩ := List.getLast?_eq_some_iff.1 hl
    simp only at h
    split at h
    · rename_i hn
      obtain ⟨j, rfl⟩ := Int.eq_ofNat_of_zero_le hn.1
      simp only [Option.some.injEq] at h
      exact ⟨cs, c, j, hcs, rfl, by omega, by rw [← h]; simp⟩
    · cases h
theorem words_some {r : Rn} {n : Int} {ws : List Int} (h : r.words n = some ws) : ∃ j, n = ((j : Nat) : Int) ∧ r.mem[j]? = some ws := by
  unfold Rn.words at h
  split at h
  · rename_i hn
    obtain ⟨j, rfl⟩ := Int.eq_ofNat_of_zero_le hn
    exact ⟨j, rfl, by simpa using h⟩
  · cases h
theorem follow_any {B Rb : Nat} {ov bv : Value} {mg : Nat} {gs : List Nat} {v : RV} {r r' : Rn} {w : World} (h : Runs B Rb ov bv mg gs v r w) (hok : okR r = true) (hf : r.does = some r') :
    Calls Tryz.prog 29 #[.pointer (some ⟨Rb, 0, none⟩)] w (RPost B Rb ov bv mg gs v r' (.tuple #[]) w) := by
  unfold okR at hok
  simp only [Bool.and_eq_true, decide_eq_true_eq, List.all_eq_true] at hok
  obtain ⟨⟨⟨⟨⟨⟨⟨⟨k1, k2⟩, k3⟩, k4⟩, k5⟩, k6⟩, k7⟩, k8⟩, k9⟩ := hok
  unfold Rn.does at hf
  cases ho : r.orders[r.next]? with
  | none => rw [ho] at hf; cases hf
  | some o =>
    obtain ⟨d, n⟩ := o
    rw [ho] at hf
    simp only at hf
    obtain ⟨r0, hr0⟩ : ∃ r0 : Rn, r0 = { r with next := r.next + 1 } := ⟨_, rfl⟩
    rw [← hr0] at hf
    have hnx : r.next ≤ 1099511627776 := by omega
    have e1 : r0.pile.length ≤ 1099511627776 := by rw [hr0]; exact k2
    have e2 : r0.leaks.length ≤ 1099511627775 := by rw [hr0]; exact k3
    have e3 : 0 ≤ r0.steps := by rw [hr0]; exact k4
    have e4 : r0.steps ≤ 1099511627776 := by rw [hr0]; exact k5
    have e6 : ∀ x ∈ r0.pile, inI x = true := by rw [hr0]; exact k6
    have e7 : ∀ c ∈ r0.calls, c.1 ≤ 1099511627776 ∧ c.2 ≤ 1099511627776 := by rw [hr0]; exact k7
    have e8 : r0.calls.length ≤ 1099511627776 := by rw [hr0]; exact k8
    have e9 : ∀ ws ∈ r0.mem, ws.length ≤ 1099511627776 := by rw [hr0]; exact k9
    have e10 : r0.next ≤ 1099511627776 := by rw [hr0]; show r.next + 1 ≤ _; omega
    have hlen : ∀ {xs : List (Nat × Nat)} {c : Nat × Nat}, r0.calls = xs ++ [c] → xs.length ≤ 1099511627776 ∧ c.1 ≤ 1099511627776 ∧ c.2 ≤ 1099511627776 := fun {xs c} he => ⟨by rw [he] at e8; simp at e8; omega, (e7 c (by rw [he]; simp))⟩
    by_cases d0 : d = 0
    · subst d0
      rw [if_pos rfl] at hf
      exact follow_step h hnx n ho r0 r' hr0 e3 e4 (Option.some.inj hf).symm
    rw [if_neg d0] at hf
    by_cases d1 : d = 1
    · subst d1
      rw [if_pos rfl] at hf
      exact follow_lay h hnx n ho r0 r' hr0 e1 (Option.some.inj hf).symm
    rw [if_neg d1] at hf
    by_cases d2 : d = 2
    · subst d2
      rw [if_pos rfl] at hf
      unfold Rn.getLocal at hf
      cases hp : r0.place n with
      | none => rw [hp] at hf; cases hf
      | some p =>
        rw [hp] at hf
        obtain ⟨cs, c, j, hc, hn, hj, rfl⟩ := place_some hp
        simp only at hf
        cases hy : r0.pile[c.1 + j]? with
        | none => rw [hy] at hf; cases hf
        | some y =>
          rw [hy] at hf
          exact follow_getLocal h hnx n j hn ho r0 r' hr0 e1 cs c hc (hlen hc).1 (hlen hc).2.1 hj y hy (Option.some.inj hf).symm
    rw [if_neg d2] at hf
    by_cases d3 : d = 3
    · subst d3
      rw [if_pos rfl] at hf
      unfold Rn.setLocal at hf
      cases hp : r0.pick with
      | none => rw [hp] at hf; cases hf
      | some vq =>
        obtain ⟨x, q⟩ := vq
        obtain ⟨xs, hx, rfl⟩ := pick_some hp
        rw [hp] at hf
        simp only at hf
        cases hpl : Rn.place { r0 with pile := xs } n with
        | none => rw [hpl] at hf; cases hf
        | some p =>
          rw [hpl] at hf
          obtain ⟨cs, c, j, hc, hn, hj, rfl⟩ := place_some hpl
          simp only at hf
          split at hf
          · rename_i hlt
            exact follow_setLocal h hnx n j hn ho r0 r' hr0 e1 cs c hc (hlen hc).1 (hlen hc).2.1 hj xs x hx hlt (Option.some.inj hf).symm
          · cases hf
    rw [if_neg d3] at hf
    by_cases d4 : d = 4
    · subst d4
      rw [if_pos rfl] at hf
      unfold Rn.getWord at hf
      cases hw : r0.words n with
      | none => rw [hw] at hf; cases hf
      | some ws =>
        rw [hw] at hf
        obtain ⟨j, hn, hm⟩ := words_some hw
        cases ws with
        | nil => cases hf
        | cons y ws => exact follow_getWord h hnx n j hn ho r0 r' hr0 e1 y ws hm (Option.some.inj hf).symm
    rw [if_neg d4] at hf
    by_cases d5 : d = 5
    · subst d5
      rw [if_pos rfl] at hf
      unfold Rn.setWord at hf
      cases hw : r0.words n with
      | none => rw [hw] at hf; cases hf
      | some ws =>
        rw [hw] at hf
        obtain ⟨j, hn, hm⟩ := words_some hw
        cases ws with
        | nil => cases hf
        | cons y ws =>
          simp only at hf
          cases hp : r0.pick with
          | none => rw [hp] at hf; cases hf
          | some vq =>
            obtain ⟨x, q⟩ := vq
            obtain ⟨xs, hx, rfl⟩ := pick_some hp
            rw [hp] at hf
            simp only [hn, Int.toNat_natCast] at hf
            exact follow_setWord h hnx n j hn ho r0 r' hr0 e1 y ws hm xs x hx (Option.some.inj hf).symm
    rw [if_neg d5] at hf
    by_cases d6 : d = 6
    · subst d6
      rw [if_pos rfl] at hf
      unfold Rn.getItem at hf
      cases hw : r0.words n with
      | none => rw [hw] at hf; cases hf
      | some ws =>
        rw [hw] at hf
        obtain ⟨j, hn, hm⟩ := words_some hw
        simp only at hf
        cases hp : r0.pick with
        | none => rw [hp] at hf; cases hf
        | some vq =>
          obtain ⟨i, q⟩ := vq
          obtain ⟨xs, hx, rfl⟩ := pick_some hp
          rw [hp] at hf
          simp only at hf
          refine follow_getItem h hnx n j hn ho r0 r' hr0 e2 e1 ws hm (e9 ws (List.mem_of_getElem? hm)) xs i (inI_of (e6 i (by rw [hx]; simp))) hx ?_
          split at hf
          · rename_i hb; rw [if_pos hb]; exact (Option.some.inj hf).symm
          · rename_i hb; rw [if_neg hb]; exact (Option.some.inj hf).symm
    rw [if_neg d6] at hf
    by_cases d7 : d = 7
    · subst d7
      rw [if_pos rfl] at hf
      unfold Rn.putItem at hf
      cases hw : r0.words n with
      | none => rw [hw] at hf; cases hf
      | some ws =>
        rw [hw] at hf
        obtain ⟨j, hn, hm⟩ := words_some hw
        simp only at hf
        cases hp : r0.pick with
        | none => rw [hp] at hf; cases hf
        | some vq =>
          obtain ⟨x, q⟩ := vq
          obtain ⟨ys, hx, rfl⟩ := pick_some hp
          rw [hp] at hf
          simp only at hf
          cases hp2 : Rn.pick { r0 with pile := ys } with
          | none => rw [hp2] at hf; cases hf
          | some vq2 =>
            obtain ⟨i, q2⟩ := vq2
            obtain ⟨xs, hx2, rfl⟩ := pick_some hp2
            rw [hp2] at hf
            have hx2' : ys = xs ++ [i] := hx2
            rw [hx2'] at hx
            simp only [hn, Int.toNat_natCast] at hf
            refine follow_putItem h hnx n j hn ho r0 r' hr0 e2 e1 ws hm (e9 ws (List.mem_of_getElem? hm)) xs i x (inI_of (e6 i (by rw [hx]; simp))) hx ?_
            split at hf
            · rename_i hb; rw [if_pos hb]; exact (Option.some.inj hf).symm
            · rename_i hb; rw [if_neg hb]; exact (Option.some.inj hf).symm
    rw [if_neg d7] at hf
    by_cases d8 : d = 8
    · subst d8
      rw [if_pos rfl] at hf
      unfold Rn.both at hf
      cases hp : r0.pick with
      | none => rw [hp] at hf; cases hf
      | some vq =>
        obtain ⟨b, q⟩ := vq
        obtain ⟨ys, hx, rfl⟩ := pick_some hp
        rw [hp] at hf
        simp only at hf
        cases hp2 : Rn.pick { r0 with pile := ys } with
        | none => rw [hp2] at hf; cases hf
        | some vq2 =>
          obtain ⟨a, q2⟩ := vq2
          obtain ⟨xs, hx2, rfl⟩ := pick_some hp2
          rw [hp2] at hf
          have hx2' : ys = xs ++ [a] := hx2
          rw [hx2'] at hx
          simp only at hf
          split at hf
          · rename_i hn
            refine follow_both h hnx n ho r0 r' hr0 e2 e1 xs a b hx hn.1 hn.2 ?_
            split at hf
            · rename_i hd
              rw [if_pos hd]
              split at hf
              · rename_i hb; rw [if_pos hb]; exact (Option.some.inj hf).symm
              · rename_i hb; rw [if_neg hb]; exact (Option.some.inj hf).symm
            · rename_i hd; rw [if_neg hd]; exact (Option.some.inj hf).symm
          · cases hf
    rw [if_neg d8] at hf
    by_cases d9 : d = 9
    · subst d9
      rw [if_pos rfl] at hf
      cases hp : r0.pick with
      | none => rw [hp] at hf; cases hf
      | some vq =>
        obtain ⟨x, q⟩ := vq
        obtain ⟨xs, hx, rfl⟩ := pick_some hp
        rw [hp] at hf
        exact follow_not h hnx n ho r0 r' hr0 e1 xs x hx (Option.some.inj hf).symm
    rw [if_neg d9] at hf
    by_cases d10 : d = 10
    · subst d10
      rw [if_pos rfl] at hf
      cases hp : r0.pick with
      | none => rw [hp] at hf; cases hf
      | some vq =>
        obtain ⟨x, q⟩ := vq
        obtain ⟨xs, hx, rfl⟩ := pick_some hp
        rw [hp] at hf
        exact follow_drop h hnx n ho r0 r' hr0 e1 xs x hx (Option.some.inj hf).symm
    rw [if_neg d10] at hf
    by_cases d15 : d = 15
    · subst d15
      rw [if_pos rfl] at hf
      unfold Rn.into at hf
      split at hf
      · rename_i hn0
        obtain ⟨j, hn⟩ := Int.eq_ofNat_of_zero_le hn0
        subst hn
        split at hf
        · rename_i hd
          exact follow_deep h hnx _ j rfl ho r0 r' hr0 hd e8 (Option.some.inj hf).symm
        · rename_i hd
          simp only [Int.toNat_natCast] at hf
          cases hb : r0.bodies[j]? with
          | none => rw [hb] at hf; cases hf
          | some b =>
            rw [hb] at hf
            obtain ⟨hjl, hbe⟩ := List.getElem?_eq_some_iff.1 hb
            simp only at hf
            split at hf
            · rename_i hc
              obtain ⟨c1, c2, c3, c4, c5, c6⟩ := hc
              obtain ⟨s, p, ww⟩ := b
              simp only at c1 c2 c3 c4 c5 c6 hf
              obtain ⟨st, rfl⟩ := Int.eq_ofNat_of_zero_le c1
              obtain ⟨pn, rfl⟩ := Int.eq_ofNat_of_zero_le c2
              obtain ⟨wn, rfl⟩ := Int.eq_ofNat_of_zero_le (show 0 ≤ ww by omega)
              refine follow_enter h hnx _ j rfl ho r0 r' hr0 (by omega) hjl st pn wn hbe (by omega) (by omega) (by omega) (by omega) e1 e10 ?_
              have := (Option.some.inj hf).symm
              rw [this]
              have e : (((wn : Int) - (pn : Int)).toNat) = wn - pn := by omega
              simp only [Int.toNat_natCast, e]
            · cases hf
      · cases hf
    rw [if_neg d15] at hf
    by_cases d16 : d = 16
    · subst d16
      rw [if_pos rfl] at hf
      unfold Rn.leave at hf
      cases hp : r0.pick with
      | none => rw [hp] at hf; cases hf
      | some vq =>
        obtain ⟨x, q⟩ := vq
        obtain ⟨xs, hx, rfl⟩ := pick_some hp
        rw [hp] at hf
        simp only at hf
        cases hl : r0.calls.getLast? with
        | none => rw [hl] at hf; cases hf
        | some c =>
          rw [hl] at hf
          obtain ⟨cs, hcs⟩ := List.getLast?_eq_some_iff.1 hl
          obtain ⟨c1, c2⟩ := c
          simp only at hf
          have h1 := hlen hcs
          split at hf
          · rename_i hle
            refine follow_leave h hnx n ho r0 r' hr0 e1 xs x hx cs c1 c2 hcs h1.1 hle h1.2.2 ?_
            have hcl : r0.calls.length = cs.length + 1 := by rw [hcs]; simp
            have hdl : r0.calls.dropLast = cs := by rw [hcs]; simp
            rw [hcl, hdl] at hf
            split at hf
            · rename_i hq; rw [if_pos (by omega)]; exact (Option.some.inj hf).symm
            · rename_i hq; rw [if_neg (by omega)]; exact (Option.some.inj hf).symm
          · cases hf
    rw [if_neg d16] at hf
    unfold Rn.turns at hf
    simp only at hf
    split at hf
    · rename_i hn0
      obtain ⟨j, hn⟩ := Int.eq_ofNat_of_zero_le hn0
      subst hn
      simp only [Int.toNat_natCast] at hf
      by_cases d11 : d = 11
      · subst d11
        rw [if_pos rfl] at hf
        exact follow_jump h hnx _ j rfl ho r0 r' hr0 (Option.some.inj hf).symm
      rw [if_neg d11] at hf
      by_cases d12 : d = 12
      · subst d12
        rw [if_pos rfl] at hf
        cases hp : r0.pick with
        | none => rw [hp] at hf; cases hf
        | some vq =>
          obtain ⟨x, q⟩ := vq
          obtain ⟨xs, hx, rfl⟩ := pick_some hp
          rw [hp] at hf
          simp only at hf
          split at hf
          · rename_i hq
            exact follow_unless0 h hnx _ j rfl ho r0 r' hr0 e1 e2 xs x hx hq (Option.some.inj hf).symm
          · rename_i hq
            exact follow_unless1 h hnx _ j rfl ho r0 r' hr0 e1 e2 xs x hx hq (Option.some.inj hf).symm
      rw [if_neg d12] at hf
      by_cases d13 : d = 13
      · subst d13
        rw [if_pos rfl] at hf
        cases hp : r0.pick with
        | none => rw [hp] at hf; cases hf
        | some vq =>
          obtain ⟨x, q⟩ := vq
          obtain ⟨xs, hx, rfl⟩ := pick_some hp
          rw [hp] at hf
          simp only at hf
          split at hf
          · rename_i hq
            exact follow_leave13f h hnx _ j rfl ho r0 r' hr0 e1 e2 xs x hx hq (Option.some.inj hf).symm
          · rename_i hq
            exact follow_leave13t h hnx _ j rfl ho r0 r' hr0 e1 e2 xs x hx hq (Option.some.inj hf).symm
      rw [if_neg d13] at hf
      by_cases d14 : d = 14
      · subst d14
        rw [if_pos rfl] at hf
        cases hp : r0.pick with
        | none => rw [hp] at hf; cases hf
        | some vq =>
          obtain ⟨x, q⟩ := vq
          obtain ⟨xs, hx, rfl⟩ := pick_some hp
          rw [hp] at hf
          simp only at hf
          split at hf
          · rename_i hq
            exact follow_leave14f h hnx _ j rfl ho r0 r' hr0 e1 e2 xs x hx hq (Option.some.inj hf).symm
          · rename_i hq
            exact follow_leave14t h hnx _ j rfl ho r0 r' hr0 e1 e2 xs x hx hq (Option.some.inj hf).symm
      rw [if_neg d14] at hf
      cases hf
    · cases hf
end Go.Proofs.YtaomlahphlemdaaGreatDoor

namespace Go.Proofs.YtaomlahphlemdaaGreatDoor
open Go.ChangeShapes Go.WideShapes Go.ChangeAt Go.RowKit
set_option linter.unusedVariables false

def gz (g : Gl) : Nat := (min (max g.size 1) 4096).toNat
def isIn (g : Gl) : Bool := decide (g.hold = 1) || decide (g.hold = 2)
def fillL (n : Nat) (ws : List Int) : List Int := ws.take n ++ List.replicate (n - ws.length) 0
/-- The words of the globals. -/
def startL : List Gl → List (List Int) → List (List Int)
  | [], _ => []
  | g :: r, [] => List.replicate (gz g) 0 :: startL r []
  | g :: r, ws :: ins => if isIn g then fillL (gz g) ws :: startL r ins else List.replicate (gz g) 0 :: startL r (ws :: ins)
def WordsAt (w : World) (S : Nat → Prop) (ws : List Int) (wa : Option Addr) : Prop := ws ≠ [] → ∃ g o, wa = some ⟨g, o, none⟩ ∧ S g ∧ g < w.heap.size ∧ ∀ k x, ws[k]? = some x → w.cell? ⟨g, o + k, none⟩ = some (.int .i64 x)
/-- Inputs, as a slice of slices. -/
def InsAt (w : World) (S : Nat → Prop) (ins : List (List Int)) (v : Value) : Prop :=
  ∃ a cap, v = .slice a ins.length cap ∧ ins.length ≤ cap ∧ cap ≤ maxLen ∧ (ins ≠ [] → ∃ g o, a = some ⟨g, o, none⟩ ∧ S g ∧ g < w.heap.size ∧
    ∀ i ws, ins[i]? = some ws → ∃ wa wc, w.cell? ⟨g, o + i, none⟩ = some (.slice wa ws.length wc) ∧ ws.length ≤ maxLen ∧ WordsAt w S ws wa)
theorem InsAt.keep {w w' : World} {S : Nat → Prop} {ins : List (List Int)} {v : Value} (h : InsAt w S ins v) (hz : w.heap.size ≤ w'.heap.size) (hk : ∀ g, S g → g < w.heap.size → w'.heap[g]? = w.heap[g]?) : InsAt w' S ins v := by
  obtain ⟨a, cap, rfl, h1, h2, h3⟩ := h
  refine ⟨a, cap, rfl, h1, h2, fun hne => ?_⟩
  obtain ⟨g, o, rfl, hS, hl, h4⟩ := h3 hne
  refine ⟨g, o, rfl, hS, by omega, fun i ws hi => ?_⟩
  obtain ⟨wa, wc, h5, h6, h7⟩ := h4 i ws hi
  refine ⟨wa, wc, (World.cell?_of_block (hk g hS hl)).trans h5, h6, fun hw => ?_⟩
  obtain ⟨g2, o2, rfl, hS2, hl2, h8⟩ := h7 hw
  exact ⟨g2, o2, rfl, hS2, by omega, fun k x hx => (World.cell?_of_block (hk g2 hS2 hl2)).trans (h8 k x hx)⟩
set_option maxRecDepth 100000 in
theorem input_any (name : List UInt8) (hold size line col : Int) (w : World) : Calls Tryz.prog 44 #[.agg #[.string ⟨name.toArray⟩, .int .i64 hold, .int .i64 size, .int .i64 line, .int .i64 col]] w fun e w' => e = .returned (.bool (decide (hold = 1) || decide (hold = 2))) ∧ w' = w.alloc (.cells #[.string ⟨name.toArray⟩, .int .i64 hold, .int .i64 size, .int .i64 line, .int .i64 col] 51) := by
  by_cases h1 : hold = 1
  · subst h1
    go_enter Tryz.func44, Tryz.ntmps44
    go_wp2_with (fail)
    go_ret
    exact ⟨rfl, rfl⟩
  · have q1 : (hold == 1) = false := by simpa using h1
    by_cases h2 : hold = 2
    · subst h2
      go_enter Tryz.func44, Tryz.ntmps44
      go_wp2_with (fail)
      go_ret
      exact ⟨rfl, rfl⟩
    · have q2 : (hold == 2) = false := by simpa using h2
      have HE := Lib.hid (show (decide (hold = 1) || decide (hold = 2)) = false by simp [h1, h2])
      rw [HE.out]
      clear h1 h2 HE
      go_enter Tryz.func44, Tryz.ntmps44
      go_wp2_with (fail)
      go_ret
      exact ⟨rfl, rfl⟩
/-- The globals' words as far as they are laid. -/
structure MemIn (B mg : Nat) (gs : List Nat) (m : List (List Int)) (N : Nat) (w : World) : Prop where
  row : w.heap[mg]? = some (.cells (memCells gs m ++ List.replicate (N - gs.length) (Value.slice none 0 0)).toArray 59 (0, 0))
  same : gs.length = m.length
  words : ∀ (i g : Nat) (ws : List Int), gs[i]? = some g → m[i]? = some ws → w.heap[g]? = some (.cells (ws.map iV).toArray 2 (0, 0))
  nod : gs.Nodup
  low : B ≤ mg ∧ ∀ g ∈ gs, B ≤ g
theorem infoWords : (Tryz.prog.info? 59).map (fun i => (i.zero, i.size, i.bytes)) = some (some (.slice none 0 0), 1, 24) := by kernel_rfl
/-- A global's cells, as the globals lie in memory. -/
theorem gl_rows {w : World} {S : Nat → Prop} {l : List Gl} {a : Option Addr} {cap : Nat} (h : GlsAt w S l (.slice a l.length cap)) (j : Nat) (hj : j < l.length) : ∃ g o, a = some ⟨g, o, none⟩ ∧ S g ∧ g < w.heap.size ∧ l.length ≤ cap ∧ ∀ i, i < 5 → w.cell? ⟨g, o + j * 5 + i, none⟩ = (cellsG l[j])[i]? := by
  rcases h with ⟨h, _⟩ | ⟨_, g, o, cap', h1, hS, hl, hc, _, h5⟩
  · rw [h] at hj; simp at hj
  · cases h1
    exact ⟨g, o, rfl, hS, hl, hc, fun i hi => by rw [show o + j * 5 + i = o + (5 * j + i) by omega]; exact h5 j l[j] (List.getElem?_eq_getElem hj) i hi⟩
theorem memCells_length {gs : List Nat} {m : List (List Int)} (h : gs.length = m.length) : (memCells gs m).length = gs.length := by unfold memCells; rw [List.length_zipWith, h, Nat.min_self]
theorem memCells_snoc {gs : List Nat} {m : List (List Int)} (h : gs.length = m.length) (g : Nat) (ws : List Int) : memCells (gs ++ [g]) (m ++ [ws]) = memCells gs m ++ [.slice (some ⟨g, 0, none⟩) ws.length ws.length] := by
  unfold memCells; rw [List.zipWith_append h]; rfl
/-- The place behind those that are laid. -/
theorem MemIn.next {B mg N : Nat} {gs : List Nat} {m : List (List Int)} {w : World} (h : MemIn B mg gs m N w) (hN : gs.length < N) : w.cell? ⟨mg, gs.length, none⟩ = some (.slice none 0 0) ∧ w.frozen? ⟨mg, gs.length, none⟩ = false ∧ mg < w.heap.size := by
  refine ⟨?_, Lib.frozen_of_heap h.row _, (Array.getElem?_eq_some_iff.1 h.row).1⟩
  rw [Lib.cell_of_heap h.row]
  rw [List.getElem?_toArray, List.getElem?_append_right (by rw [memCells_length h.same]; exact Nat.le_refl _), memCells_length h.same, Nat.sub_self, List.getElem?_replicate, if_pos (by omega)]
/-- One more global's words: its block g, at the place behind those that are laid. -/
theorem MemIn.more {B mg N : Nat} {gs : List Nat} {m : List (List Int)} {w w' : World} (h : MemIn B mg gs m N w) (hN : gs.length < N) (g : Nat) (ws : List Int) (hg : w'.heap[g]? = some (.cells (ws.map iV).toArray 2 (0, 0))) (hnew : g ∉ gs) (hB : B ≤ g)
    (hrow : w'.heap[mg]? = some (.cells ((memCells gs m ++ List.replicate (N - gs.length) (Value.slice none 0 0)).toArray.setIfInBounds gs.length (.slice (some ⟨g, 0, none⟩) ws.length ws.length)) 59 (0, 0))) (hk : ∀ q ∈ gs, w'.heap[q]? = w.heap[q]?) : MemIn B mg (gs ++ [g]) (m ++ [ws]) N w' := by
  refine ⟨?_, by simp [h.same], ?_, ?_, ⟨h.low.1, fun q hq => ?_⟩⟩
  · rw [hrow]
    congr 1
    congr 1
    apply Array.ext'
    rw [Array.toList_setIfInBounds]
    show (memCells gs m ++ List.replicate (N - gs.length) (Value.slice none 0 0)).set gs.length _ = memCells (gs ++ [g]) (m ++ [ws]) ++ List.replicate (N - (gs ++ [g]).length) (Value.slice none 0 0)
    rw [memCells_snoc h.same, List.set_append_right _ _ (by rw [memCells_length h.same]; exact Nat.le_refl _), memCells_length h.same, Nat.sub_self]
    obtain ⟨d, hd⟩ : ∃ d, N - gs.length = d + 1 := ⟨N - gs.length - 1, by omega⟩
    rw [hd, List.replicate_succ, List.set_cons_zero]
    have : N - (gs ++ [g]).length = d := by simp; omega
    rw [this]; simp
  · intro i q x h1 h2
    by_cases hi : i < gs.length
    · rw [List.getElem?_append_left hi] at h1
      rw [List.getElem?_append_left (by rw [← h.same]; exact hi)] at h2
      exact (hk q (List.mem_of_getElem? h1)).trans (h.words i q x h1 h2)
    · by_cases hi2 : i = gs.length
      · subst hi2
        rw [List.getElem?_append_right (Nat.le_refl _), Nat.sub_self] at h1
        rw [h.same, List.getElem?_append_right (Nat.le_refl _), Nat.sub_self] at h2
        simp at h1 h2
        subst h1; subst h2
        exact hg
      · rw [List.getElem?_eq_none (by simp; omega)] at h1; cases h1
  · rw [List.nodup_append]
    exact ⟨h.nod, by simp, fun a ha b hb => by simp at hb; subst hb; exact fun e => hnew (by rw [← e]; exact ha)⟩
  · rcases List.mem_append.1 hq with hq | hq
    · exact h.low.2 q hq
    · simp at hq; subst hq; exact hB
theorem madeCells_one (z : Value) (n : Nat) : madeCells #[z] n = (List.replicate n z).toArray := by
  apply Array.ext
  · simp [madeCells]
  · intro i h1 h2
    simp [madeCells, Nat.mod_one]
set_option maxHeartbeats 8000000 in
set_option maxRecDepth 100000 in
theorem start_any {p : Pr} (hN : p.globals.length ≤ 1099511627776) {w : World} {cs : Array Value} (hat : p.At w (· < w.heap.size) cs) (ins : List (List Int)) (iv : Value) (hin : InsAt w (· < w.heap.size) ins iv) :
    Calls Tryz.prog 27 #[.agg cs, iv] w fun e w' => ∃ mg gs, e = .returned (.slice (some ⟨mg, 0, none⟩) p.globals.length p.globals.length) ∧ w.grownBy w' none ∧ MemIn w.heap.size mg gs (startL p.globals ins) p.globals.length w' ∧ gs.length = p.globals.length := by
  obtain ⟨gv, fv, rfl, hgl, hfn⟩ := hat
  obtain ⟨fa, fn, fc, rfl⟩ := hfn.slice
  have HGL := Lib.hid hgl; have HIN := Lib.hid hin
  have hgs : ∃ ga gcap, gv = .slice ga p.globals.length gcap ∧ p.globals.length ≤ 4611686018427387904 := by
    rcases hgl with ⟨h, a, cap, rfl⟩ | ⟨_, g, o, cap, rfl, _, _, _, h, _⟩
    · exact ⟨a, cap, by rw [h]; rfl, by rw [h]; simp⟩
    · exact ⟨_, _, rfl, h⟩
  obtain ⟨ga, gcap, rfl, hgm⟩ := hgs
  obtain ⟨ia, icap, rfl, hicap, himx, _⟩ := hin
  clear hgl hfn
  have hmk := run_make_row' (P := Tryz.prog) 26 59 (.slice none 0 0) 24 Tryz.underlying26 infoWords rfl .i64 .i64 p.globals.length (by omega) (by omega)
  go_enter Tryz.func27, Tryz.ntmps27
  go_upto_region 2 with (fail)
  obtain ⟨W, hW⟩ : ∃ W, W = (w.alloc (.cells #[.slice ga p.globals.length gcap, .slice fa fn fc] 25)).alloc (.cells (madeCells #[.slice none 0 0] p.globals.length) 59) := ⟨_, rfl⟩
  change Code.wp _ _ _ _ ((w.alloc (.cells #[.slice ga p.globals.length gcap, .slice fa fn fc] 25)).alloc (.cells (madeCells #[.slice none 0 0] p.globals.length) 59))
  have hm0 : MemIn w.heap.size (w.heap.size + 1) [] [] p.globals.length ((w.alloc (.cells #[.slice ga p.globals.length gcap, .slice fa fn fc] 25)).alloc (.cells (madeCells #[.slice none 0 0] p.globals.length) 59)) :=
    ⟨by rw [madeCells_one]; exact alloc_at _ _ _ (by simp), rfl, fun i g ws h => by simp at h, List.nodup_nil, by omega, fun g h => by simp at h⟩
  have hg0 : w.grownBy ((w.alloc (.cells #[.slice ga p.globals.length gcap, .slice fa fn fc] 25)).alloc (.cells (madeCells #[.slice none 0 0] p.globals.length) 59)) none := grown_trans (grown_alloc _ _) (grown_alloc _ _)
  have hb0 : ((w.alloc (.cells #[.slice ga p.globals.length gcap, .slice fa fn fc] 25)).alloc (.cells (madeCells #[.slice none 0 0] p.globals.length) 59)).heap[w.heap.size]? = some (.cells #[.slice ga p.globals.length gcap, .slice fa fn fc] 25 (0, 0)) := alloc_past _ _ _ _ (by simp) (alloc_at _ _ _ rfl)
  rw [← hW] at hm0 hg0 hb0 ⊢
  clear hW
  obtain ⟨⟨u0, u1⟩, _, _⟩ := two hb0
  have hz0 : w.heap.size < W.heap.size := (Array.getElem?_eq_some_iff.1 hb0).1
  have HM0 := Lib.hid hm0; have HG0 := Lib.hid hg0
  clear hm0 hg0 hb0 hmk
  go_wp2_with (fail)
  go_loopw [1, 15] (fun v i wr => ∃ j : Nat, j ≤ p.globals.length ∧ i = .int .i64 j ∧ ∃ gs m rest, gs.length = j ∧ startL p.globals ins = m ++ startL (p.globals.drop j) rest ∧ w.grownBy wr none ∧ MemIn w.heap.size (w.heap.size + 1) gs m p.globals.length wr ∧ InsAt w (· < w.heap.size) rest v) (fun _ i _ => p.globals.length - (intOf i).toNat)
  case atStart => exact ⟨0, Nat.zero_le _, rfl, [], [], ins, rfl, rfl, HG0.out, HM0.out, HIN.out⟩
  case round =>
    obtain ⟨j, hj, rfl, gs, m, rest, hgl, hst, hgr, hmr, hir⟩ := hrel
    have HST := Lib.hid hst; have HGR := Lib.hid hgr; have HMR := Lib.hid hmr; have HIR := Lib.hid hir
    have hszr := hgr.size
    by_cases hjl : j < p.globals.length
    · obtain ⟨g, o, rfl, hg, hgl2, hcap, hcl⟩ := gl_rows HGL.out j hjl
      have hg' : g < w.heap.size := hg
      have hold : ∀ q, q < 5 → wr.cell? ⟨g, o + j * 5 + q, none⟩ = (cellsG p.globals[j])[q]? := fun q hq => (World.cell?_of_block (hgr.block g hg' (by simp))).trans (hcl q hq)
      have HDR := Lib.hid (show p.globals.drop j = p.globals[j] :: p.globals.drop (j + 1) from List.drop_eq_getElem_cons hjl)
      generalize p.globals[j] = x at *
      obtain ⟨name, hold', size, line, col⟩ := x
      have r0 : wr.cell? ⟨g, o + j * 5, none⟩ = some (.string ⟨name.toArray⟩) := hold 0 (by decide)
      have r1 : wr.cell? ⟨g, o + j * 5 + 1, none⟩ = some (.int .i64 hold') := hold 1 (by decide)
      have r2 : wr.cell? ⟨g, o + j * 5 + 2, none⟩ = some (.int .i64 size) := hold 2 (by decide)
      have r3 : wr.cell? ⟨g, o + j * 5 + 3, none⟩ = some (.int .i64 line) := hold 3 (by decide)
      have r4 : wr.cell? ⟨g, o + j * 5 + 4, none⟩ = some (.int .i64 col) := hold 4 (by decide)
      have hgr' : g < wr.heap.size := by omega
      obtain ⟨z0, z1, z2⟩ := hmr.next (by omega)
      rw [hgl] at z0 z1
      have z3 : w.heap.size < wr.heap.size := by omega
      have z4 : w.heap.size ≤ wr.heap.size := by omega
      obtain ⟨ra, rc, rfl, hrc, hrm, hrr⟩ := hir
      clear hst hgr hmr hold hcl
      obtain ⟨n, hn⟩ : ∃ n, n = gz ⟨name, hold', size, line, col⟩ := ⟨_, rfl⟩
      have HN := Lib.hid hn
      have hmx : min (max size 1) 4096 = (n : Int) := by rw [hn]; unfold gz; simp only; omega
      have hn4 : n ≤ 4096 := by omega
      have hmk := run_make_row' (P := Tryz.prog) 59 2 (.int .i64 0) 8 Tryz.underlying59 infoI64 rfl .i64 .i64 n (by omega) (by omega)
      clear hn
      go_upto_region 6 with (fail)
      have hW5 : ((wr.setCell ⟨w.heap.size + 1, j, none⟩ (.slice (some ⟨wr.heap.size + 1, 0, none⟩) n n)).alloc (.cells #[.string ⟨name.toArray⟩, .int .i64 hold', .int .i64 size, .int .i64 line, .int .i64 col] 51)).alloc (.cells (madeCells #[.int .i64 0] n) 2) = ((wr.setCell ⟨w.heap.size + 1, j, none⟩ (.slice (some ⟨wr.heap.size + 1, 0, none⟩) n n)).alloc (.cells #[.string ⟨name.toArray⟩, .int .i64 hold', .int .i64 size, .int .i64 line, .int .i64 col] 51)).alloc (.cells (madeCells #[.int .i64 0] n) 2) := rfl
      have hsz5 : (((wr.setCell ⟨w.heap.size + 1, j, none⟩ (.slice (some ⟨wr.heap.size + 1, 0, none⟩) n n)).alloc (.cells #[.string ⟨name.toArray⟩, .int .i64 hold', .int .i64 size, .int .i64 line, .int .i64 col] 51)).alloc (.cells (madeCells #[.int .i64 0] n) 2)).heap.size = wr.heap.size + 2 := by simp
      have hb5 : (((wr.setCell ⟨w.heap.size + 1, j, none⟩ (.slice (some ⟨wr.heap.size + 1, 0, none⟩) n n)).alloc (.cells #[.string ⟨name.toArray⟩, .int .i64 hold', .int .i64 size, .int .i64 line, .int .i64 col] 51)).alloc (.cells (madeCells #[.int .i64 0] n) 2)).heap[wr.heap.size]? = some (.cells #[.string ⟨name.toArray⟩, .int .i64 hold', .int .i64 size, .int .i64 line, .int .i64 col] 51 (0, 0)) := alloc_past _ _ _ _ (by simp) (alloc_at _ _ _ (by simp))
      have hr5 : (((wr.setCell ⟨w.heap.size + 1, j, none⟩ (.slice (some ⟨wr.heap.size + 1, 0, none⟩) n n)).alloc (.cells #[.string ⟨name.toArray⟩, .int .i64 hold', .int .i64 size, .int .i64 line, .int .i64 col] 51)).alloc (.cells (madeCells #[.int .i64 0] n) 2)).heap[wr.heap.size + 1]? = some (.cells (List.replicate n (Value.int .i64 0)).toArray 2 (0, 0)) := by rw [madeCells_one]; exact alloc_at _ _ _ (by simp)
      have hm5 : (((wr.setCell ⟨w.heap.size + 1, j, none⟩ (.slice (some ⟨wr.heap.size + 1, 0, none⟩) n n)).alloc (.cells #[.string ⟨name.toArray⟩, .int .i64 hold', .int .i64 size, .int .i64 line, .int .i64 col] 51)).alloc (.cells (madeCells #[.int .i64 0] n) 2)).heap[w.heap.size + 1]? = some (.cells ((memCells gs m ++ List.replicate (p.globals.length - gs.length) (Value.slice none 0 0)).toArray.setIfInBounds gs.length (.slice (some ⟨wr.heap.size + 1, 0, none⟩) n n)) 59 (0, 0)) := by
        rw [Below.heap_alloc _ _ _ (by simp; omega), Below.heap_alloc _ _ _ (by simp; omega)]
        have hx := set_block wr (w.heap.size + 1) gs.length _ (.slice (some ⟨wr.heap.size + 1, 0, none⟩) n n) _ HMR.out.row
        rw [hgl] at hx ⊢
        exact hx
      have hk5 : ∀ q, q < wr.heap.size → q ≠ w.heap.size + 1 → (((wr.setCell ⟨w.heap.size + 1, j, none⟩ (.slice (some ⟨wr.heap.size + 1, 0, none⟩) n n)).alloc (.cells #[.string ⟨name.toArray⟩, .int .i64 hold', .int .i64 size, .int .i64 line, .int .i64 col] 51)).alloc (.cells (madeCells #[.int .i64 0] n) 2)).heap[q]? = wr.heap[q]? := fun q hq hne => by
        rw [Below.heap_alloc _ _ _ (by simp; omega), Below.heap_alloc _ _ _ (by simp; omega), Below.heap_setCell _ _ _ _ hne]
      have hg5 : w.grownBy (((wr.setCell ⟨w.heap.size + 1, j, none⟩ (.slice (some ⟨wr.heap.size + 1, 0, none⟩) n n)).alloc (.cells #[.string ⟨name.toArray⟩, .int .i64 hold', .int .i64 size, .int .i64 line, .int .i64 col] 51)).alloc (.cells (madeCells #[.int .i64 0] n) 2)) none := ⟨HGR.out.os, HGR.out.tape, HGR.out.output, by rw [hsz5]; omega, fun q hq _ => (hk5 q (by omega) (by omega)).trans (HGR.out.block q hq (by simp))⟩
      generalize (((wr.setCell ⟨w.heap.size + 1, j, none⟩ (.slice (some ⟨wr.heap.size + 1, 0, none⟩) n n)).alloc (.cells #[.string ⟨name.toArray⟩, .int .i64 hold', .int .i64 size, .int .i64 line, .int .i64 col] 51)).alloc (.cells (madeCells #[.int .i64 0] n) 2)) = W5 at *
      clear hW5 hmk hmx z0 z1 z2 z3 z4 r0 r1 r2 r3 r4
      obtain ⟨e0, e1, e2, e3, e4⟩ := own5 hb5
      have hl5 : wr.heap.size < W5.heap.size := by omega
      have HR5 := Lib.hid hr5; have HM5 := Lib.hid hm5; have HK5 := Lib.hid hk5; have HG5 := Lib.hid hg5
      have HNEW := Lib.hid (show wr.heap.size + 1 ∉ gs from fun h => by
        obtain ⟨i, hi, hx⟩ := List.getElem_of_mem h
        have := HMR.out.words i _ _ (List.getElem?_eq_getElem hi) (List.getElem?_eq_getElem (by rw [← HMR.out.same]; exact hi))
        have := (Array.getElem?_eq_some_iff.1 this).1
        omega)
      have HOLD := Lib.hid (show ∀ q ∈ gs, W5.heap[q]? = wr.heap[q]? from fun q h => by
        obtain ⟨i, hi, hx⟩ := List.getElem_of_mem h
        have h1 := HMR.out.words i q _ (by rw [List.getElem?_eq_getElem hi, hx]) (List.getElem?_eq_getElem (by rw [← HMR.out.same]; exact hi))
        refine HK5.out q (Array.getElem?_eq_some_iff.1 h1).1 (fun e => ?_)
        subst e
        exact absurd (elem_of h1 HMR.out.row) (by decide))
      clear hb5 hr5 hm5 hk5 hg5
      have HMORE := Lib.hid (show ∀ (w' : World) (ws : List Int), ws.length = n → (∀ q, q < wr.heap.size → w'.heap[q]? = W5.heap[q]?) → w'.heap[wr.heap.size + 1]? = some (.cells (ws.map iV).toArray 2 (0, 0)) → MemIn w.heap.size (w.heap.size + 1) (gs ++ [wr.heap.size + 1]) (m ++ [ws]) p.globals.length w' from fun w' ws hlen hk hg => by
        have hlo : ∀ q ∈ gs, q < wr.heap.size := fun q h => by
          obtain ⟨i, hi, hx⟩ := List.getElem_of_mem h
          have h1 := HMR.out.words i q _ (by rw [List.getElem?_eq_getElem hi, hx]) (List.getElem?_eq_getElem (by rw [← HMR.out.same]; exact hi))
          exact (Array.getElem?_eq_some_iff.1 h1).1
        refine HMR.out.more (by omega) _ ws hg HNEW.out (by omega) ?_ (fun q h => (hk q (hlo q h)).trans (HOLD.out q h))
        rw [hlen, hk _ (Array.getElem?_eq_some_iff.1 HMR.out.row).1]
        exact HM5.out)
      have HROW0 := Lib.hid (show ((List.replicate n (0 : Int)).map iV).toArray = (List.replicate n (Value.int .i64 0)).toArray by rw [List.map_replicate]; rfl)
      rcases rest with _ | ⟨ws, tl⟩
      · have q1 : decide ((0 : Int) < (([] : List (List Int)).length : Int)) = false := by decide
        have q2 : decide ((0 : Int) < 0) = false := by decide
        have HSL := Lib.hid (show startL p.globals ins = (m ++ [List.replicate n 0]) ++ startL (p.globals.drop (j + 1)) [] by rw [HST.out, HDR.out, startL, ← HN.out]; simp)
        go_wp2_with (fail)
        refine (input_any name hold' size line col _).mono ?_
        rintro e w6 ⟨rfl, rfl⟩
        rcases Bool.eq_false_or_eq_true (decide (hold' = 1) || decide (hold' = 2)) with hb | hb
        all_goals
          rw [hb]
          clear hb
          go_wp2_with (fail)
          go_roundw
          case rel => exact ⟨j + 1, by omega, by go_num, gs ++ [wr.heap.size + 1], m ++ [List.replicate n 0], [], by simp [hgl], HSL.out, grown_trans HG5.out (grown_alloc _ _), HMORE.out _ _ (by simp) (fun q hq => Below.heap_alloc _ _ _ (by omega)) (by rw [HROW0.out]; exact (Below.heap_alloc _ _ _ (by omega)).trans HR5.out), HIR.out⟩
          case measure => simp [intOf]; omega
      · obtain ⟨ig, io, rfl, hig, higl, hws⟩ := hrr (by simp)
        have hig' : ig < w.heap.size := hig
        obtain ⟨wa, wc, hw1, hw2, hw3⟩ := hws 0 ws rfl
        have hw5 : W5.cell? ⟨ig, io, none⟩ = some (.slice wa ws.length wc) := (World.cell?_of_block (HG5.out.block ig higl (by simp))).trans hw1
        have HWS := Lib.hid hws; have HW3 := Lib.hid hw3
        have hl2 : (ws :: tl).length = tl.length + 1 := rfl
        rw [hl2] at hrc
        clear hws hw1 hw3
        by_cases hb : isIn ⟨name, hold', size, line, col⟩ = true
        · have HB := Lib.hid (show (decide (hold' = 1) || decide (hold' = 2)) = true by unfold isIn at hb; simpa using hb)
          have HSL := Lib.hid (show startL p.globals ins = (m ++ [fillL n ws]) ++ startL (p.globals.drop (j + 1)) tl by rw [HST.out, HDR.out, startL, if_pos hb, ← HN.out]; simp)
          have q1 : decide ((0 : Int) < ((tl.length + 1 : Nat) : Int)) = true := decide_eq_true (by omega)
          have q2 : decide ((0 : Int) < (tl.length : Int) + 1) = true := decide_eq_true (by omega)
          have q3 : 0 < tl.length + 1 := by omega
          go_wp2_with (fail)
          refine (input_any name hold' size line col _).mono ?_
          rintro e w6 ⟨rfl, rfl⟩
          rw [HB.out]
          have hk6 : ∀ q, q < W5.heap.size → (W5.alloc (.cells #[.string ⟨name.toArray⟩, .int .i64 hold', .int .i64 size, .int .i64 line, .int .i64 col] 51)).heap[q]? = W5.heap[q]? := fun q hq => Below.heap_alloc _ _ _ hq
          have hr6 := (hk6 (wr.heap.size + 1) (by omega)).trans HR5.out
          have hg6 : w.grownBy (W5.alloc (.cells #[.string ⟨name.toArray⟩, .int .i64 hold', .int .i64 size, .int .i64 line, .int .i64 col] 51)) none := grown_trans HG5.out (grown_alloc _ _)
          have hs6 : (W5.alloc (.cells #[.string ⟨name.toArray⟩, .int .i64 hold', .int .i64 size, .int .i64 line, .int .i64 col] 51)).heap.size = wr.heap.size + 3 := by simp; omega
          have hm6 := (World.cell?_of_block (a := ⟨w.heap.size + 1, j, none⟩) (hk6 (w.heap.size + 1) (by have := (Array.getElem?_eq_some_iff.1 HM5.out).1; omega)))
          have hm7 : W5.cell? ⟨w.heap.size + 1, j, none⟩ = some (.slice (some ⟨wr.heap.size + 1, 0, none⟩) n n) := by
            rw [Lib.cell_of_heap HM5.out, ← hgl]
            have hlt : gs.length < (memCells gs m ++ List.replicate (p.globals.length - gs.length) (Value.slice none 0 0)).toArray.size := by simp [memCells_length HMR.out.same]; omega
            rw [Array.getElem?_setIfInBounds_self_of_lt hlt]
          rw [hm7] at hm6
          have hml : w.heap.size + 1 < (W5.alloc (.cells #[.string ⟨name.toArray⟩, .int .i64 hold', .int .i64 size, .int .i64 line, .int .i64 col] 51)).heap.size := by rw [hs6]; omega
          have hw6 := (World.cell?_of_block (a := ⟨ig, io, none⟩) (hk6 ig (by omega))).trans hw5
          have hil : ig < (W5.alloc (.cells #[.string ⟨name.toArray⟩, .int .i64 hold', .int .i64 size, .int .i64 line, .int .i64 col] 51)).heap.size := by rw [hs6]; omega
          generalize (W5.alloc (.cells #[.string ⟨name.toArray⟩, .int .i64 hold', .int .i64 size, .int .i64 line, .int .i64 col] 51)) = W6 at *
          have HK6 := Lib.hid hk6; have HR6 := Lib.hid hr6; have HG6 := Lib.hid hg6
          clear hk6 hr6 hg6 hm7 hw5 e0 e1 e2 e3 e4 hb
          go_wp2_with (fail)
          go_still_tail 7, (by kernel_rfl)
          change wpList _ _ _ _ _ W6.drew
          refine wpList_copy_splice rfl _ _ 59 59 rfl 2 Tryz.underlying59 (by kernel_rfl) (some ⟨wr.heap.size + 1, 0, none⟩) wa n n ws.length wc rfl rfl (wr.heap.size + 1) 0 (List.replicate n (Value.int .i64 0)) 2 HR6.out ((ws.take n).map iV) (by rw [List.length_map, List.length_take]; exact Nat.min_comm _ _) ?hpos (by simp; omega) ?h1 (wr.heap.size + 1) W6.drew (Below.refl _ _) (Nat.le_refl _) ?_
          case hpos =>
            intro h0
            have hne : ws ≠ [] := by intro e; rw [e] at h0; simp at h0
            obtain ⟨g2, o2, rfl, hS2, hl2', hx⟩ := HW3.out hne
            refine ⟨rfl, _, rfl, fun k u hu => ?_⟩
            rw [List.getElem?_map] at hu
            obtain ⟨y, hy, rfl⟩ := Option.map_eq_some_iff.1 hu
            have hy2 : ws[k]? = some y := by
              rw [List.getElem?_take] at hy
              split at hy
              · exact hy
              · cases hy
            rw [Go.WideShapes.add_plain]
            exact (World.cell?_of_block (HG6.out.block g2 hl2' (by simp))).trans (hx k y hy2)
          case h1 => intro u hu; obtain ⟨y, _, rfl⟩ := List.mem_map.1 hu; rfl
          intro w8 hr8 hb8
          have HR8 := Lib.hid (show w8.heap[wr.heap.size + 1]? = some (.cells ((fillL n ws).map iV).toArray 2 (0, 0)) by
            have h := hr8
            have e : splice (List.replicate n (Value.int .i64 0)) 0 ((ws.take n).map iV) = (fillL n ws).map iV := by
              unfold splice fillL
              rw [List.take_zero, List.nil_append, List.map_append, List.drop_replicate, List.map_replicate, List.length_map, List.length_take]
              congr 1
              have : n - (0 + min n ws.length) = n - ws.length := by omega
              rw [this]; rfl
            rw [e] at h
            exact h)
          have HB8 := Lib.hid (show ∀ q, q < wr.heap.size + 1 → w8.heap[q]? = W6.heap[q]? from fun q hq => hb8.block q hq)
          have HG8 := Lib.hid (show w.grownBy w8 none from ⟨hb8.os.trans HG6.out.os, hb8.tape.trans HG6.out.tape, hb8.output.trans HG6.out.output, by have := hb8.size; have h9 : W6.drew.heap.size = W6.heap.size := rfl; omega, fun q hq _ => (HB8.out q (by omega)).trans (HG6.out.block q hq (by simp))⟩)
          have HFL := Lib.hid (show (fillL n ws).length = n by unfold fillL; simp; omega)
          clear hr8 hb8 hm6 hw6
          have HMM := Lib.hid (HMORE.out w8 (fillL n ws) HFL.out (fun q hq => (HB8.out q (by omega)).trans (HK6.out q (by omega))) HR8.out)
          have hil8 : ig < w8.heap.size := by have := HG8.out.size; omega
          have HTL := Lib.hid (show ∀ (a : Option Addr), (tl ≠ [] → a = some ⟨ig, io + 1, none⟩) → InsAt w (· < w.heap.size) tl (.slice a tl.length (rc - 1)) from fun a ha => ⟨a, rc - 1, rfl, by omega, by omega, fun hne => ⟨ig, io + 1, ha hne, hig, higl, fun i x hx => by
            have := HWS.out (i + 1) x hx
            rwa [show io + (i + 1) = io + 1 + i by omega] at this⟩⟩)
          by_cases hrc1 : rc = 1
          · subst hrc1
            have htl : tl = [] := List.eq_nil_of_length_eq_zero (by omega)
            subst htl
            go_wp2_with (fail)
            go_roundw
            case rel => exact ⟨j + 1, by omega, by go_num, gs ++ [wr.heap.size + 1], m ++ [fillL n ws], [], by simp [hgl], HSL.out, HG8.out, HMM.out, HTL.out _ (fun h => absurd rfl h)⟩
            case measure => simp [intOf]; omega
          · have b10 : (rc == 1) = false := beq_eq_false_iff_ne.mpr hrc1
            have b12 : 1 ≤ rc := by omega
            go_wp2_with (fail)
            go_roundw
            case rel => exact ⟨j + 1, by omega, by go_num, gs ++ [wr.heap.size + 1], m ++ [fillL n ws], tl, by simp [hgl], HSL.out, HG8.out, HMM.out, HTL.out _ (fun _ => rfl)⟩
            case measure => simp [intOf]; omega
        · have HB := Lib.hid (show (decide (hold' = 1) || decide (hold' = 2)) = false by unfold isIn at hb; simpa using hb)
          have HSL := Lib.hid (show startL p.globals ins = (m ++ [List.replicate n 0]) ++ startL (p.globals.drop (j + 1)) (ws :: tl) by rw [HST.out, HDR.out, startL, if_neg hb, ← HN.out]; simp)
          go_wp2_with (fail)
          refine (input_any name hold' size line col _).mono ?_
          rintro e w6 ⟨rfl, rfl⟩
          rw [HB.out]
          clear hb
          go_wp2_with (fail)
          go_roundw
          case rel => exact ⟨j + 1, by omega, by go_num, gs ++ [wr.heap.size + 1], m ++ [List.replicate n 0], ws :: tl, by simp [hgl], HSL.out, grown_trans HG5.out (grown_alloc _ _), HMORE.out _ _ (by simp) (fun q hq => Below.heap_alloc _ _ _ (by omega)) (by rw [HROW0.out]; exact (Below.heap_alloc _ _ _ (by omega)).trans HR5.out), HIR.out⟩
          case measure => simp [intOf]; omega
    · obtain rfl : j = p.globals.length := by omega
      have HALL := Lib.hid (show startL p.globals ins = m by rw [HST.out, List.drop_length]; simp [startL])
      clear hst hgr hmr hir
      go_wp2_with (fail)
      go_ret
      exact ⟨_, gs, rfl, HGR.out, by rw [HALL.out]; exact HMR.out, hgl⟩
end Go.Proofs.YtaomlahphlemdaaGreatDoor

namespace Go.Proofs.YtaomlahphlemdaaGreatDoor
open Go.ChangeShapes Go.WideShapes Go.ChangeAt Go.RowKit
set_option linter.unusedVariables false

/-- The runner at its beginning. -/
def rn0 (p : Pr) (ins : List (List Int)) (fuel : Int) : Rn :=
  ⟨(planOf p (ckProg p).gm (ckProg p).fm).orders, (planOf p (ckProg p).gm (ckProg p).fm).bodies, 0, [], [], fuel, 0, 0, [], 0, 0, startL p.globals ins, 0, false⟩
/-- So many orders, until the end. -/
def goes : Nat → Rn → Option Rn
  | 0, r => if r.ended then some r else none
  | k + 1, r => if r.ended then some r else if okR r then (match r.does with | some q => goes k q | none => none) else none
/-- A run of a program without a fault: its result, if it is that. -/
def runL (p : Pr) (ins : List (List Int)) (fuel : Int) (k : Nat) : Option Rn :=
  match (rn0 p ins fuel).into ((look (ckProg p).fm mainL).getD 0) with
  | some r => goes k r
  | none => none
theorem least_of (P : Nat → World → Prop) : ∃ f : World → Nat, ∀ w k, P k w → P (f w) w ∧ f w ≤ k := by
  have h : ∀ w : World, ∃ n : Nat, ∀ k, P k w → P n w ∧ n ≤ k := by
    intro w
    by_cases hw : ∃ k, P k w
    · have step : ∀ n, (∃ k, k ≤ n ∧ P k w) → ∃ m, P m w ∧ ∀ k, P k w → m ≤ k := by
        intro n
        induction n with
        | zero => rintro ⟨k, hk, hp⟩; exact ⟨k, hp, fun j _ => by omega⟩
        | succ n ih =>
          rintro ⟨k, hk, hp⟩
          by_cases hn : ∃ k, k ≤ n ∧ P k w
          · exact ih hn
          · exact ⟨k, hp, fun j hj => by
              by_cases hjn : j ≤ n
              · exact absurd ⟨j, hjn, hj⟩ hn
              · omega⟩
      obtain ⟨k, hk⟩ := hw
      obtain ⟨m, h1, h2⟩ := step k ⟨k, Nat.le_refl _, hk⟩
      exact ⟨m, fun j hj => ⟨h1, h2 j hj⟩⟩
    · exact ⟨0, fun k hk => absurd ⟨k, hk⟩ hw⟩
  exact ⟨fun w => Classical.choose (h w), fun w => Classical.choose_spec (h w)⟩
def zeroR : Array Value := #[.int .i64 0, .int .i64 0, .slice none 0 0, .int .i64 0, .int .i64 0, .slice none 0 0]
theorem six {w : World} {b : Nat} {c0 c1 c2 c3 c4 c5 : Value} {t : TypeId} (h : w.heap[b]? = some (.cells #[c0, c1, c2, c3, c4, c5] t (0, 0))) :
    (w.cell? ⟨b, 0, none⟩ = some c0 ∧ w.cell? ⟨b, 1, none⟩ = some c1 ∧ w.cell? ⟨b, 2, none⟩ = some c2 ∧ w.cell? ⟨b, 3, none⟩ = some c3 ∧ w.cell? ⟨b, 4, none⟩ = some c4 ∧ w.cell? ⟨b, 5, none⟩ = some c5) ∧ ∀ j, w.frozen? ⟨b, j, none⟩ = false := by
  refine ⟨⟨?_, ?_, ?_, ?_, ?_, ?_⟩, fun j => Lib.frozen_of_heap h j⟩ <;> (rw [Lib.cell_of_heap h]; rfl)
set_option maxHeartbeats 8000000 in
set_option maxRecDepth 100000 in
theorem run_bad {p : Pr} (hfit : prFit p = true) (hck : (ckProg p).err ≠ 0) {w : World} {cs : Array Value} (hat : p.At w (· < w.heap.size) cs) (iv : Value) (fuel : Int) :
    Calls Tryz.prog 13 #[.agg cs, iv, .int .i64 fuel] w fun e w' => e = .returned (.tuple #[.agg zeroR, .int .i64 40]) ∧ w.grownBy w' none := by
  have HAT := Lib.hid hat; have HFIT := Lib.hid hfit
  obtain ⟨a1, a2, a3, b1, b2, b3, rfl⟩ := hat.cells
  have HCK := Lib.hid hck
  clear hat hfit hck
  go_enter Tryz.func13, Tryz.ntmps13
  go_wp2_with (fail)
  have hg0 : w.grownBy ((w.alloc (.cells #[.slice a1 a2 a3, .slice b1 b2 b3] 25)).alloc (.cells #[.int .i64 0, .int .i64 0, .slice none 0 0, .int .i64 0, .int .i64 0, .slice none 0 0] 33)) none := grown_trans (grown_alloc _ _) (grown_alloc _ _)
  have hb0 : ((w.alloc (.cells #[.slice a1 a2 a3, .slice b1 b2 b3] 25)).alloc (.cells #[.int .i64 0, .int .i64 0, .slice none 0 0, .int .i64 0, .int .i64 0, .slice none 0 0] 33)).heap[w.heap.size]? = some (.cells #[.slice a1 a2 a3, .slice b1 b2 b3] 25 (0, 0)) := alloc_past _ _ _ _ (by simp) (alloc_at _ _ _ rfl)
  have hb1 : ((w.alloc (.cells #[.slice a1 a2 a3, .slice b1 b2 b3] 25)).alloc (.cells #[.int .i64 0, .int .i64 0, .slice none 0 0, .int .i64 0, .int .i64 0, .slice none 0 0] 33)).heap[w.heap.size + 1]? = some (.cells #[.int .i64 0, .int .i64 0, .slice none 0 0, .int .i64 0, .int .i64 0, .slice none 0 0] 33 (0, 0)) := alloc_at _ _ _ (by simp)
  have hat0 : p.At ((w.alloc (.cells #[.slice a1 a2 a3, .slice b1 b2 b3] 25)).alloc (.cells #[.int .i64 0, .int .i64 0, .slice none 0 0, .int .i64 0, .int .i64 0, .slice none 0 0] 33)) (· < ((w.alloc (.cells #[.slice a1 a2 a3, .slice b1 b2 b3] 25)).alloc (.cells #[.int .i64 0, .int .i64 0, .slice none 0 0, .int .i64 0, .int .i64 0, .slice none 0 0] 33)).heap.size) #[.slice a1 a2 a3, .slice b1 b2 b3] :=
    HAT.out.keep hg0.size (fun q _ hq => Nat.lt_of_lt_of_le hq hg0.size) (fun q _ hq o => World.cell?_of_block (hg0.block q hq (by simp)))
  generalize ((w.alloc (.cells #[.slice a1 a2 a3, .slice b1 b2 b3] 25)).alloc (.cells #[.int .i64 0, .int .i64 0, .slice none 0 0, .int .i64 0, .int .i64 0, .slice none 0 0] 33)) = W0 at *
  have HG0 := Lib.hid hg0; have HB0 := Lib.hid hb0; have HB1 := Lib.hid hb1; have HAT0 := Lib.hid hat0
  clear hg0 hb0 hb1 hat0
  refine (program_ck HFIT.out HAT0.out).mono ?_
  rintro e w2 ⟨j1, j2, rfl, hg2, hin⟩
  have HG2 := Lib.hid hg2; have HINF := Lib.hid hin
  clear hg2 hin
  have q0 : ((errOf (ckProg p)).1 != 0) = true := by
    have h := HCK.out
    unfold errOf
    rw [if_neg h]
    simpa using h
  have hj : j1 = .map none ∧ j2 = .map none := by have h := HINF.out; unfold InfoAt at h; rwa [if_neg HCK.out] at h
  obtain ⟨rfl, rfl⟩ := hj
  generalize (errOf (ckProg p)).1 = x1 at *
  generalize (errOf (ckProg p)).2.1 = x2 at *
  generalize (errOf (ckProg p)).2.2 = x3 at *
  have hl1 := (Array.getElem?_eq_some_iff.1 HB1.out).1
  obtain ⟨⟨r0, r1, r2, r3, r4, r5⟩, rf⟩ := six ((HG2.out.block _ hl1 (by simp)).trans HB1.out)
  have f0 := rf 0; have f1 := rf 1; have f2 := rf 2; have f3 := rf 3; have f4 := rf 4; have f5 := rf 5
  have hl2 : w.heap.size + 1 < w2.heap.size := by have := HG2.out.size; omega
  have hl3 : w.heap.size < w2.heap.size := by omega
  have HGG := Lib.hid (grown_trans HG0.out HG2.out)
  clear rf
  go_wp2_with (fail)
  have hg9 : w.grownBy ((((((((w2.setCell ⟨w.heap.size + 1, 0, none⟩ (.int .i64 0)).setCell ⟨w.heap.size + 1, 1, none⟩ (.int .i64 0)).setCell ⟨w.heap.size + 1, 2, none⟩ (.slice none 0 0)).setCell ⟨w.heap.size + 1, 3, none⟩ (.int .i64 0)).setCell ⟨w.heap.size + 1, 4, none⟩ (.int .i64 0)).setCell ⟨w.heap.size + 1, 5, none⟩ (.slice none 0 0)).alloc (.cells #[.map none, .map none] 81)).alloc (.cells #[.int .i64 x1, .int .i64 x2, .int .i64 x3] 67)) none := by
    repeat (first | with_reducible (refine grown_drew ?_) | with_reducible (refine grown_put ?_ _ _ (by omega)) | with_reducible (refine grown_trans ?_ (grown_alloc _ _)) | with_reducible (exact HGG.out))
  have hb9 : ((((((((w2.setCell ⟨w.heap.size + 1, 0, none⟩ (.int .i64 0)).setCell ⟨w.heap.size + 1, 1, none⟩ (.int .i64 0)).setCell ⟨w.heap.size + 1, 2, none⟩ (.slice none 0 0)).setCell ⟨w.heap.size + 1, 3, none⟩ (.int .i64 0)).setCell ⟨w.heap.size + 1, 4, none⟩ (.int .i64 0)).setCell ⟨w.heap.size + 1, 5, none⟩ (.slice none 0 0)).alloc (.cells #[.map none, .map none] 81)).alloc (.cells #[.int .i64 x1, .int .i64 x2, .int .i64 x3] 67)).heap[w.heap.size + 1]? = some (.cells zeroR 33 (0, 0)) := by
    have hq := (HG2.out.block _ hl1 (by simp)).trans HB1.out
    have hz : ∀ (x : World) (j : Nat) (v : Value), zeroR.setIfInBounds j v = zeroR → x.heap[w.heap.size + 1]? = some (.cells zeroR 33 (0, 0)) → (x.setCell ⟨w.heap.size + 1, j, none⟩ v).heap[w.heap.size + 1]? = some (.cells zeroR 33 (0, 0)) := fun x j v hv hx => by rw [set_block _ _ _ _ _ _ hx, hv]
    refine alloc_past _ _ _ _ (by simp [World.alloc]; omega) (alloc_past _ _ _ _ (by simp; omega) ?_)
    exact hz _ _ _ rfl (hz _ _ _ rfl (hz _ _ _ rfl (hz _ _ _ rfl (hz _ _ _ rfl (hz _ _ _ rfl hq)))))
  have HG9 := Lib.hid hg9; have HB9 := Lib.hid hb9
  clear hg9 hb9 r0 r1 r2 r3 r4 r5 f0 f1 f2 f3 f4 f5
  generalize ((((((((w2.setCell ⟨w.heap.size + 1, 0, none⟩ (.int .i64 0)).setCell ⟨w.heap.size + 1, 1, none⟩ (.int .i64 0)).setCell ⟨w.heap.size + 1, 2, none⟩ (.slice none 0 0)).setCell ⟨w.heap.size + 1, 3, none⟩ (.int .i64 0)).setCell ⟨w.heap.size + 1, 4, none⟩ (.int .i64 0)).setCell ⟨w.heap.size + 1, 5, none⟩ (.slice none 0 0)).alloc (.cells #[.map none, .map none] 81)).alloc (.cells #[.int .i64 x1, .int .i64 x2, .int .i64 x3] 67)) = W9 at *
  obtain ⟨⟨r0, r1, r2, r3, r4, r5⟩, rf⟩ := six HB9.out
  refine bodyPost_ret (v := .tuple #[.agg zeroR, .int .i64 40]) (by simp [results, Tryz.results13, go_sem, zeroR, r0, r1, r2, r3, r4, r5]) rfl ?_
  exact ⟨rfl, HG9.out⟩
end Go.Proofs.YtaomlahphlemdaaGreatDoor
