/-
  dom: above: its state, as lists and in memory.
-/
import Derived.Test.YtipongpgmbhpkaaDomN
namespace Go.Proofs.Ytipongpgmbhpkaa
open Go.ChangeShapes Go.WideShapes Go.ChangeAt Go.RowKit
set_option linter.unusedVariables false

theorem shorts_entry : ∀ (l : List Int) (f : Fn), (f.shorts l).entry = f.entry
  | [], _ => rfl
  | u :: us, f => by rw [Fn.shorts, shorts_entry us]; rfl
theorem least_entry (f : Fn) (v : Int) : (f.least v).2.entry = f.entry := by
  unfold Fn.least
  split
  · rfl
  · exact shorts_entry _ _
structure Ab.ok (a : Ab) (n M : Nat) : Prop where
  f : a.f.ok n
  ol : a.out.length = n
  wl : a.waiting.length = n
  oin : ∀ x ∈ a.out, 0 ≤ x ∧ x < (n : Int)
  win : ∀ r ∈ a.waiting, ∀ x ∈ r, 0 ≤ x ∧ x < (n : Int)
  wM : ∀ r ∈ a.waiting, r.length ≤ M
theorem Ab.ok.came {a : Ab} {n M : Nat} (h : a.ok n M) {v src : Nat} (hv : v < n) (hs : src < n) : (Ab.came v a src).ok n M := by
  obtain ⟨h1, h2, h3⟩ := h.f.least hs
  refine ⟨⟨h1.hl, by show (List.set _ _ _).length = n; rw [List.length_set]; exact h1.el, h1.bl, h1.hang, ?_, h1.bin⟩, h.ol, h.wl, h.oin, h.win, h.wM⟩
  refine mem_set h1.ein _ ?_
  have e1 := h1.ein _ (gi_mem (v := v) (by rw [h1.el]; exact hv))
  obtain ⟨r, hr⟩ : ∃ r : Nat, (a.f.least src).1 = r := ⟨((a.f.least src).1).toNat, by omega⟩
  have e2 := h1.ein _ (gi_mem (v := r) (by rw [h1.el]; omega))
  rw [hr]
  omega
theorem Ab.ok.wait {a : Ab} {n M : Nat} (h : a.ok n M) {parent u : Nat} (hp : parent < n) (hu : u < n) : (Ab.wait parent a u).ok n M := by
  obtain ⟨h1, h2, h3⟩ := h.f.least hu
  refine ⟨h1, by show (List.set _ _ _).length = n; rw [List.length_set]; exact h.ol, h.wl, ?_, h.win, h.wM⟩
  refine mem_set h.oin _ ?_
  split <;> omega
theorem Ab.ok.folds {n M : Nat} {step : Ab → Int → Ab} (hs : ∀ (a : Ab) (x : Nat), a.ok n M → x < n → (step a x).ok n M) : ∀ (l : List Int) (a : Ab), a.ok n M → (∀ x ∈ l, 0 ≤ x ∧ x < (n : Int)) → (l.foldl step a).ok n M
  | [], _, h, _ => h
  | x :: xs, a, h, hl => by
    have hx := hl x (List.mem_cons_self ..)
    obtain ⟨m, rfl⟩ : ∃ m : Nat, x = m := ⟨x.toNat, by omega⟩
    exact Ab.ok.folds hs xs _ (hs a m h (by omega)) (fun y hy => hl y (List.mem_cons_of_mem _ hy))
theorem foldl_take {α β : Type} (f : α → β → α) (a : α) {l : List β} {j : Nat} {x : β} (h : l[j]? = some x) : (l.take (j + 1)).foldl f a = f ((l.take j).foldl f a) x := by
  have hlt := (List.getElem?_eq_some_iff.1 h).1
  rw [List.take_succ_eq_append_getElem hlt, List.foldl_append]
  rw [List.getElem?_eq_getElem hlt] at h
  rw [Option.some.inj h]
  rfl
theorem Ab.ok.hang {a : Ab} {n M : Nat} (h : a.ok n M) {v parent : Nat} (hv : v < n) (hp : parent < v) : Ab.ok ⟨⟨a.f.hangs.set v (parent : Int), a.f.entry, a.f.best⟩, a.out, a.waiting⟩ n M := by
  refine ⟨⟨by show (List.set _ _ _).length = n; rw [List.length_set]; exact h.f.hl, h.f.el, h.f.bl, fun w x hx => ?_, h.f.ein, h.f.bin⟩, h.ol, h.wl, h.oin, h.win, h.wM⟩
  dsimp only at hx
  by_cases e : v = w
  · subst e
    rw [List.getElem?_set_self (by rw [h.f.hl]; exact hv)] at hx
    cases hx
    exact .inr (by omega)
  · rw [List.getElem?_set_ne e] at hx
    exact h.f.hang w x hx
theorem Ab.ok.lay {a : Ab} {n M : Nat} (h : a.ok n M) {v e : Nat} (hv : v < n) (he : e < n) : Ab.ok ⟨a.f, a.out, a.waiting.set e (gr a.waiting e ++ [(v : Int)])⟩ n (M + 1) := by
  have hg : gr a.waiting e ∈ a.waiting := by
    unfold gr
    rw [Int.toNat_natCast, List.getD_eq_getElem?_getD, List.getElem?_eq_getElem (by rw [h.wl]; exact he)]
    exact List.getElem_mem _
  refine ⟨h.f, h.ol, by show (List.set _ _ _).length = n; rw [List.length_set]; exact h.wl, h.oin, fun r hr x hx => ?_, fun r hr => ?_⟩
  · rcases List.mem_or_eq_of_mem_set hr with hr | rfl
    · exact h.win r hr x hx
    · rcases List.mem_append.1 hx with hx | hx
      · exact h.win _ hg x hx
      · obtain rfl := List.mem_singleton.1 hx
        omega
  · rcases List.mem_or_eq_of_mem_set hr with hr | rfl
    · exact Nat.le_succ_of_le (h.wM r hr)
    · rw [List.length_append, List.length_singleton]
      exact Nat.succ_le_succ (h.wM _ hg)
theorem Ab.ok.drop {a : Ab} {n M : Nat} (h : a.ok n M) (e : Nat) : Ab.ok ⟨a.f, a.out, a.waiting.set e []⟩ n M := by
  refine ⟨h.f, h.ol, by show (List.set _ _ _).length = n; rw [List.length_set]; exact h.wl, h.oin, fun r hr x hx => ?_, fun r hr => ?_⟩
  · rcases List.mem_or_eq_of_mem_set hr with hr | rfl
    · exact h.win r hr x hx
    · cases hx
  · rcases List.mem_or_eq_of_mem_set hr with hr | rfl
    · exact h.wM r hr
    · exact Nat.zero_le _
theorem Ab.ok.more {a : Ab} {n M M' : Nat} (h : a.ok n M) (hM : M ≤ M') : a.ok n M' := ⟨h.f, h.ol, h.wl, h.oin, h.win, fun r hr => Nat.le_trans (h.wM r hr) hM⟩

/-! ### in memory -/
def rowsA (hv ev bv ov : Value) (ws : List Value) (a : Ab) : List (Value × List Int) := (hv, a.f.hangs) :: (ev, a.f.entry) :: (bv, a.f.best) :: (ov, a.out) :: ws.zip a.waiting
structure AbAt (B : Nat) (w : World) (F : Nat) (hv ev bv ov wv : Value) (ws : List Value) (a : Ab) : Prop where
  fin : FinderAt B w F hv ev bv a.f (rowsA hv ev bv ov ws a) 0
  hdr : w.ownsRow B 35 1 wv ws.length ws
  len : ws.length = a.waiting.length
theorem AbAt.below {B : Nat} {w w' : World} {F : Nat} {hv ev bv ov wv : Value} {ws : List Value} {a : Ab} (h : AbAt B w F hv ev bv ov wv ws a) (hb : Below w.heap.size w w') : AbAt B w' F hv ev bv ov wv ws a :=
  ⟨h.fin.below hb, own_keep h.hdr (fun q hq => hb.block q (h.hdr.lt q hq).2), h.len⟩
theorem AbAt.least {B : Nat} {w w' : World} {F : Nat} {hv ev bv ov wv : Value} {ws : List Value} {a : Ab} {f' : Fn} {rs' : List (Value × List Int)} (h : AbAt B w F hv ev bv ov wv ws a) (hk : KeptF hv ev bv w w') (hf : FinderAt B w' F hv ev bv f' rs' 0) (hr : Rest3 0 (rowsA hv ev bv ov ws a) rs') : AbAt B w' F hv ev bv ov wv ws ⟨f', a.out, a.waiting⟩ := by
  have e : rs' = rowsA hv ev bv ov ws ⟨f', a.out, a.waiting⟩ := by
    apply List.ext_getElem?
    intro k
    rcases k with _ | _ | _ | k
    · rw [hf.hangs]; rfl
    · rw [hf.entry]; rfl
    · rw [hf.best]; rfl
    · rw [hr.2 _ (by omega) (by omega) (by omega)]; rfl
  rw [e] at hf
  refine ⟨hf, own_keep h.hdr (fun q hq => hk.2 q (h.hdr.lt q hq).2 ?_ ?_ ?_), h.len⟩
  · exact own_apart h.hdr (h.fin.bag.row 0 _ _ rfl) (by decide) hq
  · exact own_apart h.hdr (h.fin.bag.row 1 _ _ rfl) (by decide) hq
  · exact own_apart h.hdr (h.fin.bag.row 2 _ _ rfl) (by decide) hq
theorem AbAt.hdrput {B : Nat} {w : World} {F g n cap i : Nat} {hv ev bv ov wv : Value} {ws : List Value} {a : Ab} {xs : List Int} (h : AbAt B w F hv ev bv ov wv ws a) (hi : (rowsA hv ev bv ov ws a)[i]? = some (.slice (some ⟨g, 0, none⟩) n cap, xs)) (j : Nat) (u : Value) : (w.setCell ⟨g, j, none⟩ u).ownsRow B 35 1 wv ws.length ws := by
  refine own_keep h.hdr (fun q hq => Below.heap_setCell _ _ _ _ ?_)
  rintro rfl
  exact own_apart h.hdr (h.fin.bag.row i _ _ hi) (by decide) hq rfl
theorem AbAt.puthangs {B : Nat} {w : World} {F g n cap : Nat} {ev bv ov wv : Value} {ws : List Value} {a : Ab} (h : AbAt B w F (.slice (some ⟨g, 0, none⟩) n cap) ev bv ov wv ws a) (hn : a.f.hangs.length = n) {j : Nat} (hj : j < n) (x : Int) : AbAt B (w.setCell ⟨g, j, none⟩ (.int .i64 x)) F (.slice (some ⟨g, 0, none⟩) n cap) ev bv ov wv ws ⟨⟨a.f.hangs.set j x, a.f.entry, a.f.best⟩, a.out, a.waiting⟩ :=
  ⟨h.fin.puthangs hn hj x, h.hdrput (i := 0) rfl j _, h.len⟩
theorem AbAt.putentry {B : Nat} {w : World} {F g n cap : Nat} {hv bv ov wv : Value} {ws : List Value} {a : Ab} (h : AbAt B w F hv (.slice (some ⟨g, 0, none⟩) n cap) bv ov wv ws a) (hn : a.f.entry.length = n) {j : Nat} (hj : j < n) (x : Int) : AbAt B (w.setCell ⟨g, j, none⟩ (.int .i64 x)) F hv (.slice (some ⟨g, 0, none⟩) n cap) bv ov wv ws ⟨⟨a.f.hangs, a.f.entry.set j x, a.f.best⟩, a.out, a.waiting⟩ :=
  ⟨h.fin.putentry hn hj x, h.hdrput (i := 1) rfl j _, h.len⟩
theorem FinderAt.putrow {B : Nat} {w : World} {F g n cap k : Nat} {hv ev bv : Value} {f : Fn} {rs : List (Value × List Int)} {i : Nat} {xs : List Int} (h : FinderAt B w F hv ev bv f rs i) (hk : rs[k]? = some (.slice (some ⟨g, 0, none⟩) n cap, xs)) (hki : k ≠ i ∧ k ≠ i + 1 ∧ k ≠ i + 2) (hn : xs.length = n) {j : Nat} (hj : j < n) (x : Int) : FinderAt B (w.setCell ⟨g, j, none⟩ (.int .i64 x)) F hv ev bv f (rs.set k (.slice (some ⟨g, 0, none⟩) n cap, xs.set j x)) i := by
  have h0 : F ≠ g := h.bag.ne_box h.box (by decide) hk rfl
  refine ⟨(Below.heap_setCell _ _ _ _ h0).trans h.box, h.low, h.bag.put hk hn hj x, ?_, ?_, ?_⟩
  · rw [List.getElem?_set_ne (by omega)]; exact h.hangs
  · rw [List.getElem?_set_ne (by omega)]; exact h.entry
  · rw [List.getElem?_set_ne (by omega)]; exact h.best
theorem AbAt.putout {B : Nat} {w : World} {F g n cap : Nat} {hv ev bv wv : Value} {ws : List Value} {a : Ab} (h : AbAt B w F hv ev bv (.slice (some ⟨g, 0, none⟩) n cap) wv ws a) (hn : a.out.length = n) {j : Nat} (hj : j < n) (x : Int) : AbAt B (w.setCell ⟨g, j, none⟩ (.int .i64 x)) F hv ev bv (.slice (some ⟨g, 0, none⟩) n cap) wv ws ⟨a.f, a.out.set j x, a.waiting⟩ :=
  ⟨h.fin.putrow (k := 3) rfl (by omega) hn hj x, h.hdrput (i := 3) rfl j _, h.len⟩
theorem rowsA_in (hv ev bv ov : Value) (ws : List Value) (a : Ab) (v : Nat) : (rowsA hv ev bv ov ws a)[4 + v]? = (ws.zip a.waiting)[v]? := by
  unfold rowsA
  rw [show 4 + v = v + 1 + 1 + 1 + 1 by omega]
  simp only [List.getElem?_cons_succ]
theorem rowsA_set (hv ev bv ov : Value) (ws : List Value) (a : Ab) (v : Nat) (h : Value) (xs : List Int) : (rowsA hv ev bv ov ws a).set (4 + v) (h, xs) = rowsA hv ev bv ov (ws.set v h) ⟨a.f, a.out, a.waiting.set v xs⟩ := by
  unfold rowsA
  rw [show 4 + v = v + 1 + 1 + 1 + 1 by omega]
  simp only [List.set_cons_succ]
  rw [zip_set']
theorem AbAt.inrow {B : Nat} {w : World} {F v : Nat} {hv ev bv ov wv h0 : Value} {ws : List Value} {a : Ab} {xs : List Int} (h : AbAt B w F hv ev bv ov wv ws a) (hh : ws[v]? = some h0) (hx : a.waiting[v]? = some xs) : (rowsA hv ev bv ov ws a)[4 + v]? = some (h0, xs) := by
  rw [rowsA_in]; exact (List.getElem?_zip_eq_some (z := (h0, xs))).2 ⟨hh, hx⟩
theorem AbAt.appwait {B : Nat} {w w' : World} {F g' cap' gi n icap v : Nat} {hv ev bv ov h0 : Value} {ws : List Value} {a : Ab} {xs : List Int} (h : AbAt B w F hv ev bv ov (.slice (some ⟨gi, 0, none⟩) n icap) ws a) (hn : ws.length = n) (hh : ws[v]? = some h0) (hx : a.waiting[v]? = some xs) (x : Int)
    (hown : w'.ownsRow B 3 1 (.slice (some ⟨g', 0, none⟩) (xs.length + 1) cap') (xs.length + 1) (xs.map iV ++ [.int .i64 x])) (hg : w.grownBy w' h0.ownBlock) (hat : h0.ownBlock = some g' ∨ w.heap.size ≤ g') :
    AbAt B (w'.setCell ⟨gi, v, none⟩ (.slice (some ⟨g', 0, none⟩) (xs.length + 1) cap')) F hv ev bv ov (.slice (some ⟨gi, 0, none⟩) n icap) (ws.set v (.slice (some ⟨g', 0, none⟩) (xs.length + 1) cap')) ⟨a.f, a.out, a.waiting.set v (xs ++ [x])⟩ := by
  subst hn
  have hvl : v < ws.length := (List.getElem?_eq_some_iff.1 hh).1
  have hk := h.inrow hh hx
  have hr := h.fin.bag.row _ _ _ hk
  have hf := h.fin.approw hk (by omega) rfl x hown hg hat
  rw [rowsA_set] at hf
  have hhdr : w'.ownsRow B 35 1 (.slice (some ⟨gi, 0, none⟩) ws.length icap) ws.length ws := own_keep h.hdr (fun q hq => hg.block q (h.hdr.lt q hq).2 (fun e => own_apart h.hdr hr (by decide) hq e.symm))
  obtain ⟨cs, hcs⟩ := own_type hhdr (q := gi) rfl
  have h9 : F ≠ gi := ne_type hhdr hf.box (by decide) rfl
  refine ⟨⟨(Below.heap_setCell _ _ _ _ h9).trans hf.box, hf.low, hf.bag.other hcs (by decide) v _, hf.hangs, hf.entry, hf.best⟩, ?_, by simp [h.len]⟩
  rw [List.length_set]
  exact own_put hhdr hvl _
theorem AbAt.nilwait {B : Nat} {w : World} {F gi n icap v : Nat} {hv ev bv ov : Value} {ws : List Value} {a : Ab} (h : AbAt B w F hv ev bv ov (.slice (some ⟨gi, 0, none⟩) n icap) ws a) (hn : ws.length = n) (hv' : v < n) :
    AbAt B (w.setCell ⟨gi, v, none⟩ (.slice none 0 0)) F hv ev bv ov (.slice (some ⟨gi, 0, none⟩) n icap) (ws.set v (.slice none 0 0)) ⟨a.f, a.out, a.waiting.set v []⟩ := by
  subst hn
  obtain ⟨cs, hcs⟩ := own_type h.hdr (q := gi) rfl
  have hbag := h.fin.bag.other hcs (by decide) v (.slice none 0 0)
  have hbag2 : Bag B (w.setCell ⟨gi, v, none⟩ (.slice none 0 0)) (rowsA hv ev bv ov (ws.set v (.slice none 0 0)) ⟨a.f, a.out, a.waiting.set v []⟩) := by
    rw [← rowsA_set]
    have key : ∀ (k : Nat) (r : Value × List Int), ((rowsA hv ev bv ov ws a).set (4 + v) (.slice none 0 0, []))[k]? = some r → r = (.slice none 0 0, []) ∨ (rowsA hv ev bv ov ws a)[k]? = some r := by
      intro k r hk
      by_cases e : 4 + v = k
      · subst e
        by_cases hl : 4 + v < (rowsA hv ev bv ov ws a).length
        · rw [List.getElem?_set_self hl] at hk; cases hk; exact .inl rfl
        · rw [List.getElem?_eq_none (by rw [List.length_set]; omega)] at hk; cases hk
      · rw [List.getElem?_set_ne e] at hk; exact .inr hk
    refine ⟨fun k u xs hk => ?_, fun k l r s hr hs hne q hq => ?_⟩
    · rcases key k _ hk with e | e
      · cases e; exact own_nil _ _ _
      · exact hbag.row k u xs e
    · rcases key k _ hr with e | e
      · subst e; cases hq
      · rcases key l _ hs with e2 | e2
        · subst e2; intro e3; cases e3
        · exact hbag.apart k l r s e e2 hne q hq
  have h9 : F ≠ gi := ne_type h.hdr h.fin.box (by decide) rfl
  refine ⟨⟨(Below.heap_setCell _ _ _ _ h9).trans h.fin.box, h.fin.low, hbag2, rfl, rfl, rfl⟩, ?_, by simp [h.len]⟩
  rw [List.length_set]
  exact own_put h.hdr hv' _
end Go.Proofs.Ytipongpgmbhpkaa
