/-
  A region that draws its order, by an invariant: one goal for each operation, not one for each order.
-/
import Derived.Orders
import Derived.Tactics
import Derived.KernelRfl
import Derived.Items
import Derived.WalkKit
namespace Go.Proofs.Ytipongpgmbhpkaa.RegInv
open Go

/-- The values of all operations, put into the act in their order. -/
def full : List Oper → List Value → Act → Act
  | o :: os, v :: vs, a => full os vs (a.put o.dst v)
  | _, _, a => a

/-- The same of those alone that are listed. -/
def acts (V : List Value) (L : Nat → Bool) : Nat → List Oper → Act → Act
  | _, [], a => a
  | k, o :: os, a => acts V L (k + 1) os (if L k = true then a.put o.dst (V.getD k undef) else a)

/-- Later operations write to other slots than d. -/
def apartFrom (d : Option Tmp) (os : List Oper) : Bool := os.all fun o => match d, o.dst with
  | some x, some y => x != y
  | _, _ => true

/-- No two operations write the same slot. -/
def distinct : List Oper → Bool
  | [] => true
  | o :: os => apartFrom o.dst os && distinct os

/-- What writes slot t is among what must come ahead. -/
def writersAhead (md : Region.Mode) (o : Oper) (t : Tmp) : Nat → List Oper → Bool
  | _, [] => true
  | k, x :: xs => (x.dst != some t || o.after.any (fun e => Region.binds md e && e.on == k)) && writersAhead md o t (k + 1) xs

/-- What is asked of a region's operations. -/
def regionOk (md : Region.Mode) (ops : Array Oper) : Bool :=
  distinct ops.toList && Region.noSelect ops && ops.toList.all fun o => (o.looksAt ops).all fun t => writersAhead md o t 0 ops.toList

theorem acts_defers (V : List Value) (L : Nat → Bool) : ∀ (os : List Oper) (k : Nat) (a : Act), (acts V L k os a).defers = a.defers
  | [], _, _ => rfl
  | o :: os, k, a => by
    rw [acts, acts_defers V L os]
    split
    · cases o.dst <;> rfl
    · rfl

theorem put_size (a : Act) (d : Option Tmp) (v : Value) : (a.put d v).tmps.size = a.tmps.size := by cases d <;> simp [Act.put]

theorem acts_size (V : List Value) (L : Nat → Bool) : ∀ (os : List Oper) (k : Nat) (a : Act), (acts V L k os a).tmps.size = a.tmps.size
  | [], _, _ => rfl
  | o :: os, k, a => by
    rw [acts, acts_size V L os]
    split
    · exact put_size _ _ _
    · rfl

theorem apartFrom_ne {d : Option Tmp} {os : List Oper} (h : apartFrom d os = true) {o : Oper} (ho : o ∈ os) : ∀ x, d = some x → o.dst ≠ some x := by
  rintro x rfl hx
  have := List.all_eq_true.1 h o ho
  simp [hx] at this

/-- A put to a slot that nobody writes later goes through. -/
theorem acts_put (V : List Value) (L : Nat → Bool) (d : Option Tmp) (v : Value) : ∀ (os : List Oper) (k : Nat) (a : Act), apartFrom d os = true → acts V L k os (a.put d v) = (acts V L k os a).put d v
  | [], _, _, _ => rfl
  | o :: os, k, a, h => by
    have h' : apartFrom d os = true := List.all_eq_true.2 fun x hx => List.all_eq_true.1 h x (List.mem_cons_of_mem _ hx)
    have hne := apartFrom_ne h (List.mem_cons_self ..)
    rw [acts, acts]
    split
    · rw [Act.put_comm a v _ hne, acts_put V L d v os _ _ h']
    · exact acts_put V L d v os _ _ h'

/-- What is listed alone counts. -/
theorem acts_congr {V V' : List Value} {L L' : Nat → Bool} : ∀ (os : List Oper) (k : Nat) (a : Act), (∀ j, k ≤ j → j < k + os.length → L j = L' j ∧ (L j = true → V.getD j undef = V'.getD j undef)) → acts V L k os a = acts V' L' k os a
  | [], _, _, _ => rfl
  | o :: os, k, a, h => by
    obtain ⟨h1, h2⟩ := h k (Nat.le_refl _) (by simp)
    rw [acts, acts, acts_congr os (k + 1) _ (fun j hj hl => h j (by omega) (by simp at hl ⊢; omega)), ← h1]
    congr 1
    split
    · rw [h2 (by assumption)]
    · rfl

def setL (L : Nat → Bool) (i : Nat) : Nat → Bool := fun j => j == i || L j

/-- One more is listed. -/
theorem acts_set {V V' : List Value} {L : Nat → Bool} {i : Nat} {o : Oper} {v : Value} (hLi : L i = false) (hv : V'.getD i undef = v) (hV : ∀ j, L j = true → V'.getD j undef = V.getD j undef) : ∀ (os : List Oper) (k : Nat) (a : Act), distinct os = true → k ≤ i → os[i - k]? = some o → acts V' (setL L i) k os a = (acts V L k os a).put o.dst v
  | [], _, _, _, _, h => by simp at h
  | x :: os, k, a, hd, hk, h => by
    simp only [distinct, Bool.and_eq_true] at hd
    rcases Nat.eq_or_lt_of_le hk with rfl | hlt
    · simp only [Nat.sub_self, List.getElem?_cons_zero, Option.some.injEq] at h
      subst h
      rw [acts, acts, if_pos (by simp [setL]), if_neg (by simp [hLi]), hv, ← acts_put V L x.dst v os _ _ hd.1]
      refine acts_congr os _ _ fun j hj _ => ?_
      have hne : (j == k) = false := by simp; omega
      refine ⟨by simp [setL, hne], fun hl => hV j (by simpa [setL, hne] using hl)⟩
    · have hne : (k == i) = false := by simp; omega
      have hs : setL L i k = L k := by simp [setL, hne]
      rw [acts, acts, hs, acts_set hLi hv hV os (k + 1) _ hd.2 (by omega) (by rw [show i - k = (i - (k + 1)) + 1 by omega, List.getElem?_cons_succ] at h; exact h)]
      congr 2
      split
      · rw [hV k (by assumption)]
      · rfl

theorem put_get_eq {a b : Act} {d : Option Tmp} {t : Tmp} (v : Value) (h : a.tmps[t]? = b.tmps[t]?) (hs : a.tmps.size = b.tmps.size) : (a.put d v).tmps[t]? = (b.put d v).tmps[t]? := by
  cases d with
  | none => exact h
  | some x =>
    simp only [Act.put]
    by_cases hx : x = t
    · subst hx; simp [Array.getElem?_setIfInBounds, hs]
    · simp [Array.getElem?_setIfInBounds_ne hx, h]

theorem put_get_ne {a : Act} {d : Option Tmp} {t : Tmp} (v : Value) (h : d ≠ some t) : (a.put d v).tmps[t]? = a.tmps[t]? := by
  cases d with
  | none => rfl
  | some x =>
    have hx : x ≠ t := fun e => h (by rw [e])
    simp [Act.put, Array.getElem?_setIfInBounds_ne hx]

/-- A slot all of whose writers are listed holds what it holds in the end. -/
theorem acts_get {V : List Value} {L : Nat → Bool} {t : Tmp} : ∀ (os : List Oper) (k : Nat) (a b : Act), (∀ j o, os[j]? = some o → o.dst = some t → L (k + j) = true) → a.tmps[t]? = b.tmps[t]? → a.tmps.size = b.tmps.size → (acts V L k os a).tmps[t]? = (acts V (fun _ => true) k os b).tmps[t]?
  | [], _, _, _, _, h, _ => h
  | o :: os, k, a, b, hw, h, hs => by
    rw [acts, acts, if_pos rfl]
    refine acts_get os (k + 1) _ _ (fun j x hj hx => by have := hw (j + 1) x (by simpa using hj) hx; rwa [show k + (j + 1) = k + 1 + j by omega] at this) ?_ ?_
    · by_cases hd : o.dst = some t
      · have h0 : L k = true := hw 0 o rfl hd
        rw [if_pos h0]; exact put_get_eq _ h hs
      · rw [put_get_ne _ hd]
        split
        · rw [put_get_ne _ hd]; exact h
        · exact h
    · rw [put_size]
      split
      · rw [put_size]; exact hs
      · exact hs

theorem full_acts {V : List Value} : ∀ (os : List Oper) (vs : List Value) (k : Nat) (a : Act), vs.length = os.length → (∀ j, j < vs.length → V[k + j]? = vs[j]?) → full os vs a = acts V (fun _ => true) k os a
  | [], [], _, _, _, _ => rfl
  | [], _ :: _, _, _, h, _ => by simp at h
  | _ :: _, [], _, _, h, _ => by simp at h
  | o :: os, v :: vs, k, a, h, hv => by
    rw [full, acts, if_pos rfl, full_acts os vs (k + 1) _ (by simpa using h) (fun j hj => by have := hv (j + 1) (by simp; omega); rwa [show k + (j + 1) = k + 1 + j by omega, List.getElem?_cons_succ] at this)]
    have h0 : V[k]? = some v := by simpa using hv 0 (by simp)
    congr 2
    simp [List.getD_eq_getElem?_getD, h0]

theorem writersAhead_spec {md : Region.Mode} {o : Oper} {t : Tmp} : ∀ (os : List Oper) (k : Nat), writersAhead md o t k os = true → ∀ j x, os[j]? = some x → x.dst = some t → ∃ e ∈ o.after, Region.binds md e = true ∧ e.on = k + j
  | [], _, _, _, _, h, _ => by simp at h
  | y :: ys, k, h, j, x, hj, hx => by
    simp only [writersAhead, Bool.and_eq_true, Bool.or_eq_true] at h
    cases j with
    | zero =>
      simp only [List.getElem?_cons_zero, Option.some.injEq] at hj
      subst hj
      rcases h.1 with h1 | h1
      · simp [hx] at h1
      · obtain ⟨e, he, hb⟩ := Array.any_eq_true'.1 h1
        simp only [Bool.and_eq_true, beq_iff_eq] at hb
        exact ⟨e, he, hb.1, by omega⟩
    | succ j =>
      obtain ⟨e, he, hb, hon⟩ := writersAhead_spec ys (k + 1) h.2 j x (by simpa using hj) hx
      exact ⟨e, he, hb, by omega⟩

theorem getD_of_get {A B : Array Value} {t : Nat} (h : A[t]? = B[t]?) : A.getD t undef = B.getD t undef := by
  simp only [Array.getD_eq_getD_getElem?, h]

/-- What is listed has what it binds to listed, too. -/
def Closed (md : Region.Mode) (ops : Array Oper) (L : Nat → Bool) : Prop :=
  ∀ j o, ops.toList[j]? = some o → L j = true → ((o.after.toList.filter (fun e => Region.binds md e)).all (fun e => L e.on)) = true

/-- What one operation must do: from what is listed so far, to it and this one. G: what is open (blocks' numbers). -/
def StepOk {G : Type} (P : Program) (md : Region.Mode) (ops : Array Oper) (V : G → List Value) (I : (Nat → Bool) → G → World → Prop) (a : Act) (i : Nat) (o : Oper) : Prop :=
  ∀ (L : Nat → Bool) (g : G) (w : World), L i = false → ((o.after.toList.filter (fun e => Region.binds md e)).all (fun e => L e.on)) = true → Closed md ops L → I L g w →
    ∀ K : Act → World → Prop, (∀ v w' g', (V g')[i]? = some v → (∀ j, L j = true → (V g')[j]? = (V g)[j]?) → I (setL L i) g' w' → K ((full ops.toList (V g) a).put o.dst v) w') →
      if Region.wanted o (yielded ops (full ops.toList (V g) a).tmps) = true then Oper.wp P o (full ops.toList (V g) a) w K (fun _ _ _ => False) else K ((full ops.toList (V g) a).put o.dst undef) w

def StepsOk {G : Type} (P : Program) (md : Region.Mode) (ops : Array Oper) (V : G → List Value) (I : (Nat → Bool) → G → World → Prop) (a : Act) : Nat → List Oper → Prop
  | _, [] => True
  | k, o :: os => StepOk P md ops V I a k o ∧ StepsOk P md ops V I a (k + 1) os

theorem StepsOk.at {G : Type} {P : Program} {md : Region.Mode} {ops : Array Oper} {V : G → List Value} {I : (Nat → Bool) → G → World → Prop} {a : Act} : ∀ (os : List Oper) (k : Nat), StepsOk P md ops V I a k os → ∀ j o, os[j]? = some o → StepOk P md ops V I a (k + j) o
  | [], _, _, _, _, h => by simp at h
  | x :: xs, k, h, j, o, hj => by
    cases j with
    | zero =>
      simp only [List.getElem?_cons_zero, Option.some.injEq] at hj
      subst hj
      exact h.1
    | succ j => rw [show k + (j + 1) = k + 1 + j by omega]; exact StepsOk.at xs (k + 1) h.2 j o (by simpa using hj)

theorem put_put_congr {a b : Act} {d : Option Tmp} {u v : Value} (h : a.put d u = a.put d v) (hs : a.tmps.size = b.tmps.size) : b.put d u = b.put d v := by
  cases d with
  | none => rfl
  | some t =>
    simp only [Act.put, Act.mk.injEq, and_true] at h ⊢
    by_cases ht : t < b.tmps.size
    · have h1 := congrArg (fun x : Array Value => x[t]?) h
      simp [hs, ht] at h1
      rw [h1]
    · simp [Array.setIfInBounds, ht]

section
variable {G : Type} {P : Program} {md : Region.Mode} {ops : Array Oper} {Q : Exit → Act → World → Prop} {V : G → List Value} {I : (Nat → Bool) → G → World → Prop} {a0 : Act}

/-- The invariant's state at a listing. -/
def At (V : G → List Value) (I : (Nat → Bool) → G → World → Prop) (ops : Array Oper) (a0 : Act) (listed : Array Bool) (a : Act) (w : World) : Prop :=
  ∃ g, a = acts (V g) (fun j => listed.getD j true) 0 ops.toList a0 ∧ I (fun j => listed.getD j true) g w
def ClosedA (md : Region.Mode) (ops : Array Oper) (listed : Array Bool) : Prop := Closed md ops (fun j => listed.getD j true)

theorem getD_setL {listed : Array Bool} {i : Nat} (hi : i < listed.size) : (fun j => (listed.setIfInBounds i true).getD j true) = setL (fun j => listed.getD j true) i := by
  funext j
  unfold setL
  by_cases h : j = i
  · subst h; simp [hi]
  · simp [Array.getElem?_setIfInBounds_ne (Ne.symm h), h]

theorem step_any (hlen : ∀ g, (V g).length = ops.size) (hok : regionOk md ops = true) (hsteps : StepsOk P md ops V I a0 0 ops.toList) {listed : Array Bool} (hsz : listed.size = ops.size) (hcl : ClosedA md ops listed) {a : Act} {w : World} (hat : At V I ops a0 listed a w) {i : Nat} (hi : i ∈ Region.ready md ops listed) :
    wpOp P ops Q i (At V I ops a0 (listed.setIfInBounds i true)) a w := by
  obtain ⟨g, rfl, hI⟩ := hat
  obtain ⟨hun, o, ho, hall⟩ := mem_ready.1 hi
  have hlt : i < ops.size := (Array.getElem?_eq_some_iff.1 ho).1
  have hoL : ops.toList[i]? = some o := by rw [Array.getElem?_toList]; exact ho
  simp only [regionOk, Bool.and_eq_true] at hok
  obtain ⟨⟨hdist, hsel⟩, hahead⟩ := hok
  have hahead := List.all_eq_true.1 hahead o (List.mem_of_getElem? hoL)
  have hfull : full ops.toList (V g) a0 = acts (V g) (fun _ => true) 0 ops.toList a0 := full_acts _ _ _ _ (by simp [hlen]) (fun j _ => by simp)
  have hget : ∀ t ∈ o.looksAt ops, (acts (V g) (fun j => listed.getD j true) 0 ops.toList a0).tmps[t]? = (full ops.toList (V g) a0).tmps[t]? := fun t ht => by
    rw [hfull]
    refine acts_get _ _ _ _ (fun j x hj hx => ?_) rfl rfl
    obtain ⟨e, he, hb, hon⟩ := writersAhead_spec _ _ (List.all_eq_true.1 hahead t ht) j x hj hx
    have := hall e he hb
    rw [hon] at this
    have hj' : 0 + j < listed.size := by
      have := (List.getElem?_eq_some_iff.1 hj).1
      simp at this; omega
    simp only [Array.getD_eq_getD_getElem?, Array.getElem?_eq_getElem hj', Option.getD_some] at this ⊢
    exact this
  have heval : ∀ x ∈ o.op.operands, (acts (V g) (fun j => listed.getD j true) 0 ops.toList a0).eval x = (full ops.toList (V g) a0).eval x := fun x hx => by
    cases x with
    | tmp t => exact getD_of_get (hget t (List.mem_append_left _ (List.mem_filterMap.2 ⟨.tmp t, by simpa using hx, rfl⟩)))
    | _ => rfl
  have hexec := execOp_congr o (fun cs b => Region.noSelect_spec hsel i o cs b ho) heval
  have hwant : Region.wanted o (yielded ops (acts (V g) (fun j => listed.getD j true) 0 ops.toList a0).tmps) = Region.wanted o (yielded ops (full ops.toList (V g) a0).tmps) := by
    unfold Region.wanted
    cases hg : o.guard with
    | none => rfl
    | some gw =>
      obtain ⟨y, want⟩ := gw
      have hy : yielded ops (acts (V g) (fun j => listed.getD j true) 0 ops.toList a0).tmps y = yielded ops (full ops.toList (V g) a0).tmps y := by
        unfold yielded
        cases ht : (ops[y]?).bind (·.dst) with
        | none => rfl
        | some t => simp only [Option.bind_some]; rw [hget t (List.mem_append_right _ (by simp [hg, ht]))]
      simp only [hy]
  have hstep := StepsOk.at ops.toList 0 hsteps i o hoL (fun j => listed.getD j true) g w (by simpa using hun) (by
    rw [List.all_eq_true]
    intro e he
    rw [List.mem_filter] at he
    have := hall e (by simpa using he.1) (by simpa using he.2)
    rcases Nat.lt_or_ge e.on listed.size with h' | h'
    · simp [h'] at this ⊢; exact this
    · simp [Array.getElem?_eq_none h'] at this) hcl hI
  rw [Nat.zero_add] at hstep
  -- the step behind: from the whole act to that of what is listed
  have hback : ∀ v w' g', (V g')[i]? = some v → (∀ j, listed.getD j true = true → (V g')[j]? = (V g)[j]?) → I (setL (fun j => listed.getD j true) i) g' w' →
      At V I ops a0 (listed.setIfInBounds i true) ((acts (V g) (fun j => listed.getD j true) 0 ops.toList a0).put o.dst v) w' := fun v w' g' h1 h2 h3 => by
    refine ⟨g', ?_, ?_⟩
    · rw [getD_setL (by omega)]
      exact (acts_set (V := V g) (V' := V g') (o := o) (by simpa using hun) (by simp [List.getD_eq_getElem?_getD, h1]) (fun j hj => by simp only [List.getD_eq_getElem?_getD, h2 j hj]) ops.toList 0 a0 hdist (Nat.zero_le _) (by simpa using ho)).symm
    · rw [getD_setL (by omega)]; exact h3
  have hK := hstep (fun a' w' => (∃ v, a' = (full ops.toList (V g) a0).put o.dst v) ∧ ∀ v, a' = (full ops.toList (V g) a0).put o.dst v → At V I ops a0 (listed.setIfInBounds i true) ((acts (V g) (fun j => listed.getD j true) 0 ops.toList a0).put o.dst v) w') (fun v w' g' h1 h2 h3 => ⟨⟨v, rfl⟩, fun v' he => by
    rw [← put_put_congr he (by rw [hfull, acts_size, acts_size])]
    exact hback v w' g' h1 h2 h3⟩)
  unfold wpOp
  simp only [ho]
  rw [hwant]
  split
  · rename_i hw
    rw [if_pos hw] at hK
    refine .inl ?_
    unfold Oper.wp at *
    rw [hexec]
    generalize (execOp (full ops.toList (V g) a0).eval o).run P w = r at *
    cases r with
    | ok n w' =>
      cases n <;> simp only [Oper.upon] at hK ⊢
      case value u => exact hK.2 u rfl
      case skip => exact hK.2 undef rfl
      case defer d =>
        -- a deferred call turns the act's list: not borne here
        obtain ⟨⟨v, hv⟩, _⟩ := hK
        have h1 := congrArg Act.defers hv
        have h2 : ∀ (b : Act) (t : Option Tmp) (x : Value), (b.put t x).defers = b.defers := fun b t x => by cases t <;> rfl
        rw [h2, h2] at h1
        have := congrArg List.length h1
        simp at this
      case enter f args =>
        refine Calls.mono hK fun e w'' he => ?_
        cases e with
        | returned u => exact he.2 u rfl
        | panicked c => exact he.elim
        | outgrown => exact he.elim (fun _ h => h.elim (fun _ h => h.elim))
      case row row args => exact Rows.mono hK fun u w'' he => he.2 u rfl
    | halt x w' =>
      cases x <;> simp only [Oper.upon] at hK
  · rename_i hw
    rw [if_neg hw] at hK
    exact hK.2 undef rfl

theorem closed_set {listed : Array Bool} (hsz : listed.size = ops.size) (hcl : ClosedA md ops listed) {i : Nat} (hi : i ∈ Region.ready md ops listed) : ClosedA md ops (listed.setIfInBounds i true) := by
  obtain ⟨hun, oi, hoi, hall⟩ := mem_ready.1 hi
  have hlt : i < listed.size := by have := (Array.getElem?_eq_some_iff.1 hoi).1; omega
  intro j o hj hl
  rw [getD_setL hlt] at hl ⊢
  rw [List.all_eq_true]
  intro e he
  have he' := he
  rw [List.mem_filter] at he'
  by_cases hji : j = i
  · subst hji
    have ho : o = oi := by
      rw [Array.getElem?_toList, hoi] at hj
      exact (Option.some.inj hj).symm
    subst ho
    have := hall e (by simpa using he'.1) (by simpa using he'.2)
    rcases Nat.lt_or_ge e.on listed.size with h' | h'
    · simp only [Array.getD_eq_getD_getElem?, Array.getElem?_eq_getElem h', Option.getD_some] at this
      simp only [setL, Array.getD_eq_getD_getElem?, Array.getElem?_eq_getElem h', Option.getD_some, this, Bool.or_true]
    · simp [Array.getElem?_eq_none h'] at this
  · have hne : (j == i) = false := by simp [hji]
    have hl' : listed.getD j true = true := by simpa [setL, hne] using hl
    have := List.all_eq_true.1 (hcl j o hj hl') e he
    simp only [setL]
    simp only at this
    rw [this, Bool.or_true]

/-- How many are not listed. -/
def left (listed : Array Bool) : Nat := listed.toList.countP (fun b => !b)

theorem countP_set : ∀ (l : List Bool) (i : Nat), l[i]? = some false → (l.set i true).countP (fun b => !b) + 1 = l.countP (fun b => !b)
  | [], _, h => by simp at h
  | b :: bs, 0, h => by
    simp only [List.getElem?_cons_zero, Option.some.injEq] at h
    subst h
    simp
  | b :: bs, i + 1, h => by
    have := countP_set bs i (by simpa using h)
    simp only [List.set_cons_succ, List.countP_cons]
    omega

theorem wpAny_inv (hlen : ∀ g, (V g).length = ops.size) (hok : regionOk md ops = true) (hsteps : StepsOk P md ops V I a0 0 ops.toList)
    (hdone : ∀ listed a w, listed.size = ops.size → At V I ops a0 listed a w → Region.ready md ops listed = [] → Q .normal a w) :
    ∀ (fuel : Nat) (listed : Array Bool) (a : Act) (w : World), listed.size = ops.size → ClosedA md ops listed → left listed ≤ fuel → At V I ops a0 listed a w → wpAny P md ops Q fuel listed a w := by
  intro fuel
  induction fuel with
  | zero =>
    intro listed a w hsz hcl hl hat
    have hr : Region.ready md ops listed = [] := by
      refine List.eq_nil_iff_forall_not_mem.2 fun i hi => ?_
      obtain ⟨hun, o, ho, _⟩ := mem_ready.1 hi
      have hlt : i < listed.size := by have := (Array.getElem?_eq_some_iff.1 ho).1; omega
      simp only [Array.getD_eq_getD_getElem?, Array.getElem?_eq_getElem hlt, Option.getD_some] at hun
      have := countP_set listed.toList i (by simp [hlt, hun])
      unfold left at hl
      omega
    exact ⟨hr, hdone listed a w hsz hat hr⟩
  | succ fuel ih =>
    intro listed a w hsz hcl hl hat
    refine ⟨hdone listed a w hsz hat, fun i hi => ?_⟩
    refine wpOp_mono (fun a' w' h => ih _ a' w' (by simpa using hsz) (closed_set hsz hcl hi) ?_ h) (step_any hlen hok hsteps hsz hcl hat hi)
    obtain ⟨hun, o, ho, _⟩ := mem_ready.1 hi
    have hlt : i < listed.size := by have := (Array.getElem?_eq_some_iff.1 ho).1; omega
    simp only [Array.getD_eq_getD_getElem?, Array.getElem?_eq_getElem hlt, Option.getD_some] at hun
    have := countP_set listed.toList i (by simp [hlt, hun])
    unfold left at *
    simp only [Array.toList_setIfInBounds]
    omega

/-- Each operation's binding edges lead to operations ahead of it. -/
def edgesBack (md : Region.Mode) : Nat → List Oper → Bool
  | _, [] => true
  | k, o :: os => o.after.all (fun e => !Region.binds md e || decide (e.on < k)) && edgesBack md (k + 1) os

theorem edgesBack_at {md : Region.Mode} : ∀ (os : List Oper) (k : Nat), edgesBack md k os = true → ∀ j o, os[j]? = some o → ∀ e ∈ o.after, Region.binds md e = true → e.on < k + j
  | [], _, _, _, _, h => by simp at h
  | x :: xs, k, h, j, o, hj => by
    simp only [edgesBack, Bool.and_eq_true] at h
    cases j with
    | zero =>
      simp only [List.getElem?_cons_zero, Option.some.injEq] at hj
      subst hj
      intro e he hb
      have := Array.all_eq_true_iff_forall_mem.1 h.1 e he
      simp [hb] at this
      omega
    | succ j =>
      intro e he hb
      have := edgesBack_at xs (k + 1) h.2 j o (by simpa using hj) e he hb
      omega

/-- Where nothing more is ready all is listed. -/
theorem all_listed (hb : edgesBack md 0 ops.toList = true) {listed : Array Bool} (hsz : listed.size = ops.size) (hr : Region.ready md ops listed = []) : ∀ i, listed.getD i true = true := by
  intro i
  induction i using Nat.strongRecOn with
  | _ i ih =>
    rcases Nat.lt_or_ge i ops.size with hlt | hge
    · cases hun : listed.getD i true with
      | true => rfl
      | false =>
        exfalso
        have ho : ops[i]? = some ops[i] := Array.getElem?_eq_getElem hlt
        have : i ∈ Region.ready md ops listed := mem_ready.2 ⟨hun, _, ho, fun e he hbind => by
          have hon := edgesBack_at _ _ hb i _ (by simp) e he hbind
          have h1 := ih e.on (by omega)
          have h' : e.on < listed.size := by omega
          simp only [Array.getD_eq_getD_getElem?, Array.getElem?_eq_getElem h', Option.getD_some] at h1 ⊢
          exact h1⟩
        rw [hr] at this
        cases this
    · simp [Array.getElem?_eq_none (show listed.size ≤ i by omega)]

/-- A REGION THAT DRAWS, BY AN INVARIANT. -/
theorem wp_region_inv {id : Nat} {w0 : World} (hm : P.follows .mixedOrders = true) (V : G → List Value) (I : (Nat → Bool) → G → World → Prop) (g0 : G)
    (hlen : ∀ g, (V g).length = ops.size) (hok : regionOk .any ops = true) (hb : edgesBack .any 0 ops.toList = true)
    (h0 : I (fun j => decide (ops.size ≤ j)) g0 w0.drew)
    (hsteps : StepsOk P .any ops V I a0 0 ops.toList)
    (hdone : ∀ g w, I (fun _ => true) g w → Q .normal (full ops.toList (V g) a0) w) : (Code.region id ops true).wp P Q a0 w0 := by
  refine wp_region_any hm (wpAny_inv (V := V) (I := I) (a0 := a0) hlen hok hsteps ?_ _ _ _ _ (by simp) ?_ ?_ ⟨g0, ?_, ?_⟩)
  · rintro listed a w hsz ⟨g, rfl, hI⟩ hr
    have hall := all_listed hb hsz hr
    have e : (fun j => listed.getD j true) = fun _ => true := funext hall
    rw [e] at hI ⊢
    rw [← full_acts _ (V g) _ _ (by simp [hlen]) (fun j _ => by simp)]
    exact hdone g w hI
  · intro j o hj hl
    have h : j < (Array.replicate ops.size false).size := by have := (List.getElem?_eq_some_iff.1 hj).1; simpa using this
    simp only [Array.getD_eq_getD_getElem?, Array.getElem?_eq_getElem h, Option.getD_some] at hl
    simp at hl
  · unfold left
    simp only [Array.toList_replicate]
    rw [List.countP_replicate]
    simp
  · have : ∀ (os : List Oper) (k : Nat) (L : Nat → Bool) (a : Act), (∀ j, k ≤ j → j < k + os.length → L j = false) → acts (V g0) L k os a = a := by
      intro os
      induction os with
      | nil => intros; rfl
      | cons o os ih =>
        intro k L a h
        rw [acts, ih (k + 1) L _ (fun j h1 h2 => h j (by omega) (by simp at h2 ⊢; omega)), if_neg (by simp [h k (Nat.le_refl _) (by simp)])]
    refine (this _ _ _ _ fun j h1 h2 => ?_).symm
    have : j < (Array.replicate ops.size false).size := by simpa using h2
    simp only [Array.getD_eq_getD_getElem?, Array.getElem?_eq_getElem this, Option.getD_some]
    simp
  · have : (fun j => (Array.replicate ops.size false).getD j true) = fun j => decide (ops.size ≤ j) := by
      funext j
      rcases Nat.lt_or_ge j ops.size with h | h
      · have h' : j < (Array.replicate ops.size false).size := by simpa using h
        simp only [Array.getD_eq_getD_getElem?, Array.getElem?_eq_getElem h', Option.getD_some]
        simp; omega
      · simp [h]
    rw [this]; exact h0

end

/-- The same over a written-out list. -/
def ClosedL (os : List Oper) (L : Nat → Bool) : Prop :=
  ∀ j o, os[j]? = some o → L j = true → ((o.after.toList.filter (fun e => Region.binds .any e)).all (fun e => L e.on)) = true
def Step {G : Type} (P : Program) (os : List Oper) (V : G → List Value) (I : (Nat → Bool) → G → World → Prop) (a : Act) (i : Nat) (o : Oper) : Prop :=
  ∀ (L : Nat → Bool) (g : G) (w : World), L i = false → ((o.after.toList.filter (fun e => Region.binds .any e)).all (fun e => L e.on)) = true → ClosedL os L → I L g w →
    ∀ K : Act → World → Prop, (∀ v w' g', (V g')[i]? = some v → (∀ j, L j = true → (V g')[j]? = (V g)[j]?) → I (setL L i) g' w' → K ((full os (V g) a).put o.dst v) w') →
      if Region.wanted o (yielded os.toArray (full os (V g) a).tmps) = true then Oper.wp P o (full os (V g) a) w K (fun _ _ _ => False) else K ((full os (V g) a).put o.dst undef) w
def Steps {G : Type} (P : Program) (os : List Oper) (V : G → List Value) (I : (Nat → Bool) → G → World → Prop) (a : Act) : Nat → List Oper → Prop
  | _, [] => True
  | k, o :: r => Step P os V I a k o ∧ Steps P os V I a (k + 1) r
section
variable {G : Type} {P : Program} {os : List Oper} {Q : Exit → Act → World → Prop} {V : G → List Value} {I : (Nat → Bool) → G → World → Prop} {a0 : Act}
theorem Steps.cons {k k' : Nat} {o : Oper} {r : List Oper} (h : Step P os V I a0 k o) (hk : k + 1 = k') (hr : Steps P os V I a0 k' r) : Steps P os V I a0 k (o :: r) := by
  subst hk; exact ⟨h, hr⟩
theorem Steps.nil {k : Nat} : Steps P os V I a0 k [] := trivial
theorem Steps.ok : ∀ (r : List Oper) (k : Nat), Steps P os V I a0 k r → StepsOk P .any os.toArray V I a0 k r
  | [], _, _ => trivial
  | _ :: r, k, h => ⟨h.1, Steps.ok r (k + 1) h.2⟩
theorem wp_region_by {id : Nat} {w0 : World} (hm : P.follows .mixedOrders = true) (V : G → List Value) (I : (Nat → Bool) → G → World → Prop) (g0 : G)
    (hlen : ∀ g, (V g).length = os.length) (hok : (regionOk .any os.toArray && edgesBack .any 0 os) = true)
    (h0 : I (fun j => decide (os.length ≤ j)) g0 w0.drew)
    (hsteps : Steps P os V I a0 0 os)
    (hdone : ∀ g w, I (fun _ => true) g w → Q .normal (full os (V g) a0) w) : (Code.region id os.toArray true).wp P Q a0 w0 := by
  rw [Bool.and_eq_true] at hok
  exact wp_region_inv hm V I g0 (fun g => by simp [hlen]) hok.1 (by simpa using hok.2) (by simpa using h0) (by simpa using Steps.ok os 0 hsteps) (by simpa using hdone)
/-- Operation j binds itself to operation i. -/
def deps (os : List Oper) (j i : Nat) : Bool := match os[j]? with
  | some o => o.after.toList.any (fun e => Region.binds .any e && e.on == i)
  | none => false
theorem ClosedL.not {os : List Oper} {L : Nat → Bool} (h : ClosedL os L) (j i : Nat) (hd : deps os j i = true) (hL : L i = false) : L j = false := by
  cases e : L j with
  | false => rfl
  | true =>
    unfold deps at hd
    split at hd
    · rename_i o ho
      obtain ⟨x, hx, hb⟩ := List.any_eq_true.1 hd
      simp only [Bool.and_eq_true, beq_iff_eq] at hb
      have := List.all_eq_true.1 (h j o ho e) x (List.mem_filter.2 ⟨hx, hb.1⟩)
      rw [hb.2, hL] at this
      cases this
    · cases hd
theorem ClosedL.dep {os : List Oper} {L : Nat → Bool} (h : ClosedL os L) (j i : Nat) (hd : deps os j i = true) (hL : L j = true) : L i = true := by
  cases e : L i with
  | true => rfl
  | false => rw [h.not j i hd e] at hL; cases hL
theorem dep_of {o : Oper} {L : Nat → Bool} (h : ((o.after.toList.filter (fun e => Region.binds .any e)).all (fun e => L e.on)) = true) (i : Nat) (hd : (o.after.toList.any (fun e => Region.binds .any e && e.on == i)) = true) : L i = true := by
  obtain ⟨x, hx, hb⟩ := List.any_eq_true.1 hd
  simp only [Bool.and_eq_true, beq_iff_eq] at hb
  have := List.all_eq_true.1 h x (List.mem_filter.2 ⟨hx, hb.1⟩)
  rwa [hb.2] at this
theorem set_get {V V' : List Value} {L : Nat → Bool} (i : Nat) {v : Value} (hL : L i = false) (h : V' = V.set i v) : ∀ j, L j = true → V'[j]? = V[j]? := by
  intro j hj
  have hne : i ≠ j := by rintro rfl; rw [hL] at hj; cases hj
  rw [h, List.getElem?_set_ne hne]
theorem get_trans {V V' V'' : List Value} {L : Nat → Bool} (h : ∀ j, L j = true → V'[j]? = V[j]?) (h' : ∀ j, L j = true → V''[j]? = V'[j]?) : ∀ j, L j = true → V''[j]? = V[j]? := fun j hj => (h' j hj).trans (h j hj)
theorem setL_ne {L : Nat → Bool} {i j : Nat} (h : j ≠ i) : setL L i j = L j := by simp [setL, h]
theorem setL_eq {L : Nat → Bool} {i : Nat} : setL L i i = true := by simp [setL]
end
end Go.Proofs.Ytipongpgmbhpkaa.RegInv
