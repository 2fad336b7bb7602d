/-
  flow: Depths: its contract.
-/
import Derived.Test.YtipongpgmbhpkaaDomAA
namespace Go.Proofs.Ytipongpgmbhpkaa
open Go.ChangeShapes Go.WideShapes Go.ChangeAt Go.RowKit
open Go.Proofs.Ytipongpgmbhpkaa.RegInv
set_option linter.unusedVariables false

/-- outer and far as they are filled. -/
def Lo.part (n j : Nat) : Lo := ⟨List.replicate j (-1) ++ List.replicate (n - j) 0, uptoz n j⟩
theorem Lo.part_end (n : Nat) : Lo.part n n = ⟨List.replicate n (-1), upto n⟩ := by unfold Lo.part uptoz; simp
def fillV (P o f n j : Nat) (g : Nat) : List Value :=
  [.pointer (some ⟨P, 0, none⟩), .pointer (some ⟨P, 0, none⟩), .pointer (some ⟨P, 3, none⟩), .slice (some ⟨o, 0, none⟩) n n, .int .i64 j, .pointer (some ⟨P, 0, none⟩), .pointer (some ⟨P, 0, none⟩), .pointer (some ⟨P, 4, none⟩), .slice (some ⟨f, 0, none⟩) n n, .int .i64 j, .int .i64 j, .pointer (some ⟨o, j, none⟩), undef, .pointer (some ⟨f, j, none⟩), undef]
def fillS (l : Lo) (j : Nat) (a b : Bool) : Lo := ⟨if a then l.outer.set j (-1) else l.outer, if b then l.far.set j (j : Int) else l.far⟩
def rowsD (o f : Nat) (n : Nat) (tv uv : Value) (l : Lo) (t : Tr) : List (Value × List Int) := [(.slice (some ⟨o, 0, none⟩) n n, l.outer), (.slice (some ⟨f, 0, none⟩) n n, l.far), (tv, t.place), (uv, t.size)]
structure FI (B : Nat) (w0 : World) (P G o f n : Nat) (tv uv : Value) (t : Tr) (l : Lo) (j : Nat) (L : Nat → Bool) (g : Nat) (w : World) : Prop where
  low : Below B w0 w
  at' : LoAt B w P G tv uv (.slice (some ⟨o, 0, none⟩) n n) (.slice (some ⟨f, 0, none⟩) n n) (fillS l j (L 12) (L 14)) (rowsD o f n tv uv (fillS l j (L 12) (L 14)) t) 0
theorem FI.skip {B : Nat} {w0 : World} {P G o f n : Nat} {tv uv : Value} {t : Tr} {l : Lo} {j : Nat} {L : Nat → Bool} {g : Nat} {w : World} (h : FI B w0 P G o f n tv uv t l j L g w) {i : Nat} (hi : 12 ≠ i ∧ 14 ≠ i) : FI B w0 P G o f n tv uv t l j (setL L i) g w := by
  refine ⟨h.low, ?_⟩
  rw [setL_ne hi.1, setL_ne hi.2]
  exact h.at'
theorem find_ok {t : Tr} {ins : List (List Int)} {top n : Nat} (htop : top < n) (hin : ∀ r ∈ ins, ∀ x ∈ r, 0 ≤ x ∧ x < (n : Int)) : ∀ (k : Nat) (left : List Int) (l : Lo), l.ok n → (∀ x ∈ left, 0 ≤ x ∧ x < (n : Int)) → (Lo.find t ins top k left l).ok n
  | 0, _, l, h, _ => h
  | k + 1, left, l, h, hl => by
    by_cases hne : left = []
    · rw [hne, find_nil]; exact h
    · rw [find_step hne]
      have hcr := hl _ (last_mem hne)
      obtain ⟨c, hc⟩ : ∃ c : Nat, left.getLastD 0 = c := ⟨(left.getLastD 0).toNat, by omega⟩
      rw [hc]
      have hf := farthest_ok l.far.length l.far c h.fl h.fin (by omega)
      obtain ⟨res, hres⟩ : ∃ r, r = Lo.farthest l.far.length l.far c := ⟨_, rfl⟩
      rw [← hres] at hf ⊢
      obtain ⟨d, far2⟩ := res
      dsimp only at hf ⊢
      obtain ⟨dn, rfl⟩ : ∃ dn : Nat, d = dn := ⟨d.toNat, by omega⟩
      have hl1 : ∀ x ∈ left.take (left.length - 1), 0 ≤ x ∧ x < (n : Int) := fun x hx => hl x (List.mem_of_mem_take hx)
      split
      · exact find_ok htop hin k _ _ ⟨h.ol, hf.1.1, hf.1.2, h.oin⟩ hl1
      · rw [Int.toNat_natCast]
        refine find_ok htop hin k _ _ ⟨by dsimp only; rw [List.length_set]; exact h.ol, by dsimp only; rw [List.length_set]; exact hf.1.1, mem_set hf.1.2 dn (by omega), fun x hx => ?_⟩ (fun x hx => ?_)
        · rcases List.mem_or_eq_of_mem_set hx with hx | rfl
          · exact h.oin x hx
          · exact .inr (by omega)
        · rcases List.mem_append.1 hx with hx | hx
          · exact hl1 x hx
          · have h2 := (List.mem_filter.1 hx).1
            have hg : gr ins (dn : Int) ∈ ins ∨ gr ins (dn : Int) = [] := by
              unfold gr
              rw [Int.toNat_natCast, List.getD_eq_getElem?_getD]
              rcases Nat.lt_or_ge dn ins.length with hv | hv
              · rw [List.getElem?_eq_getElem hv]; exact .inl (List.getElem_mem _)
              · rw [List.getElem?_eq_none hv]; exact .inr rfl
            rcases hg with hg | hg
            · exact hin _ hg x h2
            · rw [hg] at h2; cases h2
theorem order_in {outs : List (List Int)} (hne : outs ≠ []) (hin : Inside outs) : ∀ x ∈ orderL outs, 0 ≤ x ∧ x < (outs.length : Int) := by
  intro x hx
  rw [orderL_eq hne] at hx
  exact (OS.ok.run hin _ _ (OS.ok.first hne).1).lin x (List.mem_reverse.1 hx)
theorem rowsD_of {o f n : Nat} {tv uv : Value} {l l' : Lo} {t : Tr} {B : Nat} {w : World} {P G : Nat} {rs : List (Value × List Int)} (h : LoAt B w P G tv uv (.slice (some ⟨o, 0, none⟩) n n) (.slice (some ⟨f, 0, none⟩) n n) l' rs 0) (hr : Rest2 0 (rowsD o f n tv uv l t) rs) : rs = rowsD o f n tv uv l' t := by
  apply List.ext_getElem?
  intro k
  rcases k with _ | _ | k
  · rw [h.outer]; rfl
  · rw [h.far]; rfl
  · rw [hr.2 _ (by omega) (by omega)]; rfl
theorem InsAt2.below {B : Nat} {w w' : World} {ig : Nat} {ins : List (List Int)} (h : InsAt2 B w ig ins) (hb : Below B w w') (hig : ig < B) : InsAt2 B w' ig ins := fun i row hi => by
  obtain ⟨h1, a, c, h2, h3⟩ := h i row hi
  refine ⟨h1, a, c, (hb.cell (p := ⟨ig, i, none⟩) hig).trans h2, fun hne => ?_⟩
  obtain ⟨b, h4, h5, h6, h7⟩ := h3 hne
  exact ⟨b, h4, h5, Nat.lt_of_lt_of_le h6 hb.size, fun k x hx => (hb.cell (p := ⟨b, k, none⟩) h5).trans (h7 k x hx)⟩
theorem take_rev {l : List Int} {k : Nat} {x : Int} (h : l[k]? = some x) : (l.take (k + 1)).reverse = x :: (l.take k).reverse := by
  have hlt := (List.getElem?_eq_some_iff.1 h).1
  rw [List.take_succ_eq_append_getElem hlt, List.reverse_append]
  rw [List.getElem?_eq_getElem hlt] at h
  rw [Option.some.inj h]
  rfl
theorem LoAt.putrow {B : Nat} {w : World} {P G g n cap k : Nat} {tv uv ov fv : Value} {l : Lo} {rs : List (Value × List Int)} {i : Nat} {xs : List Int} (h : LoAt B w P G tv uv ov fv l rs i) (hk : rs[k]? = some (.slice (some ⟨g, 0, none⟩) n cap, xs)) (hki : k ≠ i ∧ k ≠ i + 1) (hn : xs.length = n) {j : Nat} (hj : j < n) (x : Int) : LoAt B (w.setCell ⟨g, j, none⟩ (.int .i64 x)) P G tv uv ov fv l (rs.set k (.slice (some ⟨g, 0, none⟩) n cap, xs.set j x)) i := by
  have h0 : P ≠ g := h.bag.ne_box h.box (by decide) hk rfl
  refine ⟨(Below.heap_setCell _ _ _ _ h0).trans h.box, h.low, h.bag.put hk hn hj x, ?_, ?_⟩
  · rw [List.getElem?_set_ne (by omega)]; exact h.outer
  · rw [List.getElem?_set_ne (by omega)]; exact h.far
structure TI2 (B : Nat) (w0 : World) (P G o f n mg b : Nat) (tv uv lv : Value) (t : Tr) (l l' : Lo) (tops : List Bool) (bt : Bool) (ord : List Int) (L : Nat → Bool) (g : Nat) (w : World) : Prop where
  low : Below B w0 w
  at' : LoAt B w P G tv uv (.slice (some ⟨o, 0, none⟩) n n) (.slice (some ⟨f, 0, none⟩) n n) (if L 10 then l' else l) (rowsD o f n tv uv (if L 10 then l' else l) t) 0
  orow : w.ownsRow B 3 1 lv ord.length (ord.map iV)
  brow : w.ownsRow B 4 1 (.slice (some ⟨mg, 0, none⟩) n n) n ((if L 12 then tops.set b bt else tops).map Value.bool)
theorem TI2.skip {B : Nat} {w0 : World} {P G o f n mg b : Nat} {tv uv lv : Value} {t : Tr} {l l' : Lo} {tops : List Bool} {bt : Bool} {ord : List Int} {L : Nat → Bool} {g : Nat} {w : World} (h : TI2 B w0 P G o f n mg b tv uv lv t l l' tops bt ord L g w) {i : Nat} (hi : 10 ≠ i ∧ 12 ≠ i) : TI2 B w0 P G o f n mg b tv uv lv t l l' tops bt ord (setL L i) g w := by
  refine ⟨h.low, ?_, h.orow, ?_⟩
  · rw [setL_ne hi.1]; exact h.at'
  · rw [setL_ne hi.2]; exact h.brow
def topV (P mg lb n m lc k b : Nat) (z : Int) (bt : Bool) (g : Nat) : List Value :=
  [.slice (some ⟨mg, 0, none⟩) n n, .slice (some ⟨lb, 0, none⟩) m lc, .int .i64 z, .pointer (some ⟨lb, k, none⟩), .int .i64 b, .pointer (some ⟨P, 0, none⟩), .slice (some ⟨lb, 0, none⟩) m lc, .int .i64 z, .pointer (some ⟨lb, k, none⟩), .int .i64 b, .bool bt, .pointer (some ⟨mg, b, none⟩), undef]
set_option maxHeartbeats 16000000 in
set_option maxRecDepth 100000 in
theorem depths_any {w : World} {B0 G : Nat} {ov iv : Value} {os js : List Value} {g : Gr} (hg : GrAt B0 w G ov iv os js g) (hne : g.outs ≠ []) (hin : Inside g.outs) (hn : g.outs.length ≤ 1000000) (he : edges g.outs ≤ 1000000) (hjl : g.ins.length = g.outs.length) (hjn : ∀ r ∈ g.ins, ∀ x ∈ r, 0 ≤ x ∧ x < (g.outs.length : Int)) (hjr : ∀ r ∈ g.ins, r.length ≤ 1000000)
    (hlow : Low (aboveL (walkedL g.outs)) (walkedL g.outs).par.length) (htok : (ofL g.outs).ok g.outs.length) (hfok : findsOk (ofL g.outs) g.ins (2 * edges g.ins + g.outs.length + 1) (orderL g.outs).reverse ⟨List.replicate g.outs.length (-1), upto g.outs.length⟩ = true) :
    Calls Try.prog 14 #[.pointer (some ⟨G, 0, none⟩)] w fun e w' => ∃ dv, e = .returned dv ∧ Below w.heap.size w w' ∧ w'.ownsRow w.heap.size 3 1 dv g.outs.length ((depthsL g).map iV) := by
  have hpos : 0 < g.outs.length := List.length_pos_iff.2 hne
  obtain ⟨n, hnn⟩ : ∃ n, n = g.outs.length := ⟨_, rfl⟩
  have HN := Lib.hid hnn
  have hol : os.length = n := by rw [hg.lo, hnn]
  obtain ⟨oa, oc, rfl⟩ := own_form hg.ho
  rw [hol] at hg
  have hho := hg.ho
  rw [hol] at hho
  rw [← hnn] at hn hpos ⊢
  obtain ⟨og, hog⟩ : ∃ og, oa = some ⟨og, 0, none⟩ := by
    rcases own_slice hho with ⟨_, h0⟩ | ⟨q, c, h0, _⟩
    · omega
    · simp only [Value.slice.injEq] at h0; exact ⟨q, h0.1⟩
  subst hog
  have hogl := (hho.lt og rfl).2
  obtain ⟨⟨c0, c1⟩, _, hGl⟩ := tbox hg.box
  have hjl0 : js.length = n := by rw [hg.lj, hjl, hnn]
  obtain ⟨ja, jc, rfl⟩ := own_form hg.hj
  rw [hjl0] at hg c1
  have hjo := hg.hj
  rw [hjl0] at hjo
  obtain ⟨jg, hjg⟩ : ∃ jg, ja = some ⟨jg, 0, none⟩ := by
    rcases own_slice hjo with ⟨_, h0⟩ | ⟨q, c, h0, _⟩
    · omega
    · simp only [Value.slice.injEq] at h0; exact ⟨q, h0.1⟩
  subst hjg
  have hjgl := (hjo.lt jg rfl).2
  have HINS := Lib.hid (show InsAt2 w.heap.size w jg g.ins from fun i row hi => by
    have hil : i < n := by rw [hnn, ← hjl]; exact (List.getElem?_eq_some_iff.1 hi).1
    obtain ⟨h0, hh0⟩ : ∃ u, js[i]? = some u := ⟨_, List.getElem?_eq_getElem (by rw [hjl0]; exact hil)⟩
    have hr := hg.bag.row _ _ _ (hg.jrow hh0 hi)
    obtain ⟨a, c, rfl⟩ := own_form hr
    refine ⟨hjr row (List.mem_of_getElem? hi), a, c, own_cell hjo hh0, fun hne' => ?_⟩
    obtain ⟨b, hb, _⟩ := own_head hr (List.length_pos_iff.2 hne')
    subst hb
    exact ⟨b, rfl, (hr.lt b rfl).2, (hr.lt b rfl).2, fun k x hx => (own_at hr hx).1⟩)
  have HOUT := Lib.hid (show OutsAt w.heap.size w og 0 oc g.outs from ⟨hogl, hogl, fun i xs hi => by
    have hil : i < n := by rw [hnn]; exact (List.getElem?_eq_some_iff.1 hi).1
    obtain ⟨h0, hh0⟩ : ∃ u, os[i]? = some u := ⟨_, List.getElem?_eq_getElem (by rw [hol]; exact hil)⟩
    exact ⟨h0, by rw [Nat.zero_add]; exact own_cell hho hh0, own_rowAt (hg.bag.row _ _ _ (hg.orow hh0 hi))⟩⟩)
  have HG := Lib.hid hg; have HNE := Lib.hid hne; have HIN := Lib.hid hin; have HE := Lib.hid he; have HLOW := Lib.hid hlow; have HTOK := Lib.hid htok; have HFOK := Lib.hid hfok; have HJL := Lib.hid hjl; have HJN := Lib.hid hjn; have HJR := Lib.hid hjr
  have HOL := Lib.hid hol
  clear hg hne hin he hlow htok hfok hjl hjn hjr hho hol hnn hjl0 hjo
  have hmk := run_make_row' (P := Try.prog) 35 3 (.int .i64 0) 8 Try.underlying35 info3 rfl .i64 .i64 n (by omega) (by omega)
  have hmb := run_make_row' (P := Try.prog) 33 4 (.bool false) 1 Try.underlying33 infoBool rfl .i64 .i64 n (by omega) (by omega)
  have HMK := Lib.hid hmk; have HMB := Lib.hid hmb
  clear hmk hmb
  have q2 : ¬ (n = 0) := by omega
  go_enter Try.func14, Try.ntmps14
  go_wp2_with (go_at_call 17; refine (len_any HG.out.box).mono ?_; rintro e w2 ⟨rfl, hw⟩; replace hw := hw.symm; subst hw)
  have qn : ((n : Int) == 0) = false := by simp; omega
  rw [qn]
  clear q2 qn
  refine wp_region_by (by kernel_rfl) (dV3 G n og oc) (DI n G (ofL g.outs) w) ((none, 0, none, 0), 0, 0, 0) (fun _ => rfl) (by kernel_rfl) ?h0 ?steps ?done
  case h0 => exact ⟨⟨rfl, rfl, rfl, Nat.le_refl _, fun _ _ => rfl⟩, fun a => by simp at a, fun a => by simp at a, fun a => by simp at a, fun a => by simp at a, fun a => by simp at a, fun a => by simp at a, fun a => by simp at a, fun a => by simp at a, fun a => by simp at a⟩
  case steps =>
    have hmk := HMK.out
    refine (Steps.cons (k' := 1) ?s0 rfl (Steps.cons (k' := 2) ?s1 rfl (Steps.cons (k' := 3) ?s2 rfl (Steps.cons (k' := 4) ?s3 rfl (Steps.cons (k' := 5) ?s4 rfl (Steps.cons (k' := 6) ?s5 rfl (Steps.cons (k' := 7) ?s6 rfl (Steps.cons (k' := 8) ?s7 rfl (Steps.cons (k' := 9) ?s8 rfl (Steps.cons (k' := 10) ?s9 rfl (Steps.cons (k' := 11) ?s10 rfl (Steps.cons (k' := 12) ?s11 rfl (Steps.cons (k' := 13) ?s12 rfl (Steps.cons (k' := 14) ?s13 rfl (Steps.cons (k' := 15) ?s14 rfl Steps.nil)))))))))))))))
    case s0 =>
      intro L g' w' hL hd hcl hI K hK
      simp only [full, dV3, Act.put, List.setIfInBounds_toArray, List.set_cons_zero, List.set_cons_succ] at hK ⊢
      have HL := Lib.hid hL; have HD := Lib.hid hd; have HC := Lib.hid hcl; have HJ := Lib.hid hI; have HK := Lib.hid hK
      clear hL hd hcl hI hK
      go_simp
      exact HK.out _ _ g' rfl (fun _ _ => by first | rfl | trivial) (HJ.out.skip (by decide))
    case s1 =>
      intro L g' w' hL hd hcl hI K hK
      simp only [full, dV3, Act.put, List.setIfInBounds_toArray, List.set_cons_zero, List.set_cons_succ] at hK ⊢
      have HL := Lib.hid hL; have HD := Lib.hid hd; have HC := Lib.hid hcl; have HJ := Lib.hid hI; have HK := Lib.hid hK
      clear hL hd hcl hI hK
      go_simp
      exact HK.out _ _ g' rfl (fun _ _ => by first | rfl | trivial) (HJ.out.skip (by decide))
    case s2 =>
      intro L g' w' hL hd hcl hI K hK
      simp only [full, dV3, Act.put, List.setIfInBounds_toArray, List.set_cons_zero, List.set_cons_succ] at hK ⊢
      have HL := Lib.hid hL; have HD := Lib.hid hd; have HC := Lib.hid hcl; have HJ := Lib.hid hI; have HK := Lib.hid hK
      clear hL hd hcl hI hK
      go_simp
      exact HK.out _ _ g' rfl (fun _ _ => by first | rfl | trivial) (HJ.out.skip (by decide))
    case s3 =>
      intro L g' w' hL hd hcl hI K hK
      simp only [full, dV3, Act.put, List.setIfInBounds_toArray, List.set_cons_zero, List.set_cons_succ] at hK ⊢
      have HL := Lib.hid hL; have HD := Lib.hid hd; have HC := Lib.hid hcl; have HJ := Lib.hid hI; have HK := Lib.hid hK
      clear hL hd hcl hI hK
      go_simp
      exact HK.out _ _ g' rfl (fun _ _ => by first | rfl | trivial) (HJ.out.skip (by decide))
    case s4 =>
      intro L g' w' hL hd hcl hI K hK
      simp only [full, dV3, Act.put, List.setIfInBounds_toArray, List.set_cons_zero, List.set_cons_succ] at hK ⊢
      have z := (World.cell?_of_block (hI.low.block G hGl)).trans c0
      have z2 := Nat.lt_of_lt_of_le hGl hI.low.size
      have HL := Lib.hid hL; have HD := Lib.hid hd; have HC := Lib.hid hcl; have HJ := Lib.hid hI; have HK := Lib.hid hK
      clear hL hd hcl hI hK
      go_simp
      exact HK.out _ _ g' rfl (fun _ _ => by first | rfl | trivial) (HJ.out.skip (by decide))
    case s5 =>
      intro L g' w' hL hd hcl hI K hK
      simp only [full, dV3, Act.put, List.setIfInBounds_toArray, List.set_cons_zero, List.set_cons_succ] at hK ⊢
      have l12 : L 12 = false := hcl.not 12 5 (by kernel_rfl) hL
      have l13 : L 13 = false := hcl.not 13 12 (by kernel_rfl) l12
      have HOT := Lib.hid ((HOUT.out.below hI.low).mono hI.low.size)
      have HL := Lib.hid hL; have HD := Lib.hid hd; have HC := Lib.hid hcl; have HJ := Lib.hid hI; have HK := Lib.hid hK
      clear hL hd hcl hI hK
      go_simp
      have HOF := of_any HNE.out (b := og) (off := 0) (cap := oc) HOT.out (by rw [← HN.out]; exact hn) HE.out HLOW.out
      rw [← HN.out] at HOF
      refine HOF.mono ?_
      rintro e w2 ⟨tv, uv, rfl, hb, hp, hs, hne4⟩
      obtain ⟨ta, tc, rfl⟩ := own_form hp
      obtain ⟨ua, uc, rfl⟩ := own_form hs
      exact HK.out _ _ ((ta, tc, ua, uc), g'.2) rfl (get_trans (set_get 5 HL.out rfl) (set_get 12 l12 rfl)) (HJ.out.m5 l13 hb hp hs hne4)
    case s6 =>
      intro L g' w' hL hd hcl hI K hK
      simp only [full, dV3, Act.put, List.setIfInBounds_toArray, List.set_cons_zero, List.set_cons_succ] at hK ⊢
      have HL := Lib.hid hL; have HD := Lib.hid hd; have HC := Lib.hid hcl; have HJ := Lib.hid hI; have HK := Lib.hid hK
      clear hL hd hcl hI hK
      go_simp
      exact HK.out _ _ g' rfl (fun _ _ => by first | rfl | trivial) (HJ.out.skip (by decide))
    case s7 =>
      intro L g' w' hL hd hcl hI K hK
      simp only [full, dV3, Act.put, List.setIfInBounds_toArray, List.set_cons_zero, List.set_cons_succ] at hK ⊢
      have HBX := Lib.hid ((hI.low.block G hGl).trans HG.out.box)
      have HL := Lib.hid hL; have HD := Lib.hid hd; have HC := Lib.hid hcl; have HJ := Lib.hid hI; have HK := Lib.hid hK
      clear hL hd hcl hI hK
      go_simp
      refine (len_any HBX.out).mono ?_
      rintro e w2 ⟨rfl, hw⟩
      replace hw := hw.symm
      subst hw
      exact HK.out _ _ g' rfl (fun _ _ => by first | rfl | trivial) (HJ.out.skip (by decide))
    case s8 =>
      intro L g' w' hL hd hcl hI K hK
      simp only [full, dV3, Act.put, List.setIfInBounds_toArray, List.set_cons_zero, List.set_cons_succ] at hK ⊢
      have l12 : L 12 = false := hcl.not 12 8 (by kernel_rfl) hL
      have l13 : L 13 = false := hcl.not 13 12 (by kernel_rfl) l12
      have HL := Lib.hid hL; have HD := Lib.hid hd; have HC := Lib.hid hcl; have HJ := Lib.hid hI; have HK := Lib.hid hK
      clear hL hd hcl hI hK
      go_simp
      exact HK.out _ _ (g'.1, w'.heap.size, g'.2.2) rfl (get_trans (set_get 8 HL.out rfl) (set_get 12 l12 rfl)) (HJ.out.m8 l13)
    case s9 =>
      intro L g' w' hL hd hcl hI K hK
      simp only [full, dV3, Act.put, List.setIfInBounds_toArray, List.set_cons_zero, List.set_cons_succ] at hK ⊢
      have HL := Lib.hid hL; have HD := Lib.hid hd; have HC := Lib.hid hcl; have HJ := Lib.hid hI; have HK := Lib.hid hK
      clear hL hd hcl hI hK
      go_simp
      exact HK.out _ _ g' rfl (fun _ _ => by first | rfl | trivial) (HJ.out.skip (by decide))
    case s10 =>
      intro L g' w' hL hd hcl hI K hK
      simp only [full, dV3, Act.put, List.setIfInBounds_toArray, List.set_cons_zero, List.set_cons_succ] at hK ⊢
      have HBX := Lib.hid ((hI.low.block G hGl).trans HG.out.box)
      have HL := Lib.hid hL; have HD := Lib.hid hd; have HC := Lib.hid hcl; have HJ := Lib.hid hI; have HK := Lib.hid hK
      clear hL hd hcl hI hK
      go_simp
      refine (len_any HBX.out).mono ?_
      rintro e w2 ⟨rfl, hw⟩
      replace hw := hw.symm
      subst hw
      exact HK.out _ _ g' rfl (fun _ _ => by first | rfl | trivial) (HJ.out.skip (by decide))
    case s11 =>
      intro L g' w' hL hd hcl hI K hK
      simp only [full, dV3, Act.put, List.setIfInBounds_toArray, List.set_cons_zero, List.set_cons_succ] at hK ⊢
      have l12 : L 12 = false := hcl.not 12 11 (by kernel_rfl) hL
      have l13 : L 13 = false := hcl.not 13 12 (by kernel_rfl) l12
      have HL := Lib.hid hL; have HD := Lib.hid hd; have HC := Lib.hid hcl; have HJ := Lib.hid hI; have HK := Lib.hid hK
      clear hL hd hcl hI hK
      go_simp
      exact HK.out _ _ (g'.1, g'.2.1, w'.heap.size, g'.2.2.2) rfl (get_trans (set_get 11 HL.out rfl) (set_get 12 l12 rfl)) (HJ.out.m11 l13)
    case s12 =>
      intro L g' w' hL hd hcl hI K hK
      simp only [full, dV3, Act.put, List.setIfInBounds_toArray, List.set_cons_zero, List.set_cons_succ] at hK ⊢
      have HL := Lib.hid hL; have HD := Lib.hid hd; have HC := Lib.hid hcl; have HJ := Lib.hid hI; have HK := Lib.hid hK
      clear hL hd hcl hI hK
      go_simp
      exact HK.out _ _ g' rfl (fun _ _ => by first | rfl | trivial) (HJ.out.skip (by decide))
    case s13 =>
      intro L g' w' hL hd hcl hI K hK
      simp only [full, dV3, Act.put, List.setIfInBounds_toArray, List.set_cons_zero, List.set_cons_succ] at hK ⊢
      have l14 : L 14 = false := hcl.not 14 13 (by kernel_rfl) hL
      have HL := Lib.hid hL; have HD := Lib.hid hd; have HC := Lib.hid hcl; have HJ := Lib.hid hI; have HK := Lib.hid hK
      clear hL hd hcl hI hK
      go_simp
      exact HK.out _ _ (g'.1, g'.2.1, g'.2.2.1, w'.heap.size) rfl (get_trans (set_get 13 HL.out rfl) (set_get 14 l14 rfl)) HJ.out.m13
    case s14 =>
      intro L g' w' hL hd hcl hI K hK
      simp only [full, dV3, Act.put, List.setIfInBounds_toArray, List.set_cons_zero, List.set_cons_succ] at hK ⊢
      have HL := Lib.hid hL; have HD := Lib.hid hd; have HC := Lib.hid hcl; have HJ := Lib.hid hI; have HK := Lib.hid hK
      clear hL hd hcl hI hK
      go_simp
      exact HK.out _ _ g' rfl (fun _ _ => by first | rfl | trivial) (HJ.out.skip (by decide))
  case done =>
    intro g1 w1 hI
    have htp := hI.tp rfl; have hts := hI.ts rfl; have htt := hI.tt rfl
    obtain ⟨o1, o2⟩ := hI.o rfl
    obtain ⟨f1, f2⟩ := hI.f rfl
    have hof := hI.of rfl rfl
    have hpo := hI.pno rfl rfl; have hpf := hI.pnf rfl rfl
    obtain ⟨p1, p2⟩ := hI.box rfl
    have HB1 := Lib.hid hI.low
    obtain ⟨⟨ta, tc, ua, uc⟩, o, f, P⟩ := g1
    have hmx : n ≤ maxLen := by unfold maxLen; omega
    obtain ⟨t, ht⟩ : ∃ t, t = ofL g.outs := ⟨_, rfl⟩
    rw [← ht] at htp hts HTOK HFOK
    have hpl : t.place.length = n := by rw [HTOK.out.pl, ← HN.out]
    have hsl : t.size.length = n := by rw [HTOK.out.sl, ← HN.out]
    have HL1 := Lib.hid (show LoAt w.heap.size w1 P G (.slice ta n tc) (.slice ua n uc) (.slice (some ⟨o, 0, none⟩) n n) (.slice (some ⟨f, 0, none⟩) n n) (Lo.part n 0) (rowsD o f n (.slice ta n tc) (.slice ua n uc) (Lo.part n 0) t) 0 from by
      have e : Lo.part n 0 = ⟨List.replicate n 0, List.replicate n 0⟩ := by unfold Lo.part uptoz upto; simp
      refine ⟨p2, p1, ?_, rfl, rfl⟩
      rw [e]
      refine ((((Bag.nil _ _).more _ _ (own_made o2 o1 hmx) (fun i r hi => by simp at hi)).more _ _ (own_made f2 f1 hmx) (fun i r hi q hq e => ?_)).more (.slice ta n tc) t.place (by rw [hpl]; exact htp) (fun i r hi q hq e => ?_)).more (.slice ua n uc) t.size (by rw [hsl]; exact hts) (fun i r hi q hq e => ?_)
      · rcases i with _ | i
        · simp at hi; subst hi
          have e1 : o = q := Option.some.inj hq
          have e2 : f = q := Option.some.inj e
          exact hof (by show o = f; omega)
        · simp at hi
      · rcases i with _ | _ | i
        · simp at hi; subst hi
          have e1 : o = q := Option.some.inj hq
          exact hpo.1 q e e1.symm
        · simp at hi; subst hi
          have e1 : f = q := Option.some.inj hq
          exact hpf.1 q e e1.symm
        · simp at hi
      · rcases i with _ | _ | _ | i
        · simp at hi; subst hi
          have e1 : o = q := Option.some.inj hq
          exact hpo.2 q e e1.symm
        · simp at hi; subst hi
          have e1 : f = q := Option.some.inj hq
          exact hpf.2 q e e1.symm
        · simp at hi; subst hi
          exact htt q hq e
        · simp at hi)
    have HT := Lib.hid ht
    clear hI htp hts htt o1 o2 f1 f2 hof hpo hpf p1 p2 hmx ht
    simp only [full, dV3, Act.put, List.setIfInBounds_toArray, List.set_cons_zero, List.set_cons_succ]
    have hbx := HL1.out.box
    have b3 : w1.cell? ⟨P, 3, none⟩ = some (.slice (some ⟨o, 0, none⟩) n n) := cell_ok hbx 3
    have hPl := lt_heap hbx
    clear hbx
    go_wp2_with (fail)
    clear b3 hPl
    go_loopw [33] (fun iv wr => ∃ j : Nat, j ≤ n ∧ iv = .int .i64 j ∧ Below w.heap.size w wr ∧ LoAt w.heap.size wr P G (.slice ta n tc) (.slice ua n uc) (.slice (some ⟨o, 0, none⟩) n n) (.slice (some ⟨f, 0, none⟩) n n) (Lo.part n j) (rowsD o f n (.slice ta n tc) (.slice ua n uc) (Lo.part n j) t) 0) (fun iv _ => n - (intOf iv).toNat)
    case atStart => exact ⟨0, Nat.zero_le _, rfl, HB1.out, HL1.out⟩
    case round =>
      obtain ⟨j, hj, rfl, hbr, hlr⟩ := hrel
      have HBR := Lib.hid hbr; have HLR := Lib.hid hlr
      clear hbr hlr
      by_cases hjl : j < n
      · have hji : (j : Int) < (n : Int) := by omega
        go_wp2_with (fail)
        refine wp_region_by (by kernel_rfl) (fillV P o f n j) (FI w.heap.size w P G o f n (.slice ta n tc) (.slice ua n uc) t (Lo.part n j) j) 0 (fun _ => rfl) (by kernel_rfl) ?k0 ?ksteps ?kdone
        case k0 => exact ⟨⟨HBR.out.os, HBR.out.tape, HBR.out.output, HBR.out.size, HBR.out.block⟩, HLR.out.below ⟨rfl, rfl, rfl, Nat.le_refl _, fun _ _ => rfl⟩⟩
        case kdone =>
          intro gg w' hI
          have hf := hI.at'
          have e : fillS (Lo.part n j) j true true = Lo.part n (j + 1) := by
            unfold fillS Lo.part
            simp only [if_true]
            rw [fills_set n j hjl, uptoz_set n j hjl]
          rw [e] at hf
          have HF2 := Lib.hid hf; have HB2 := Lib.hid hI.low
          clear hf hI
          simp only [full, fillV, Act.put, List.setIfInBounds_toArray, List.set_cons_zero, List.set_cons_succ]
          go_wp2_with (fail)
          go_roundw
          case rel => exact ⟨j + 1, by omega, by go_num, HB2.out, HF2.out⟩
          case measure => simp [intOf]; omega
        case ksteps =>
          refine (Steps.cons (k' := 1) ?s0 rfl (Steps.cons (k' := 2) ?s1 rfl (Steps.cons (k' := 3) ?s2 rfl (Steps.cons (k' := 4) ?s3 rfl (Steps.cons (k' := 5) ?s4 rfl (Steps.cons (k' := 6) ?s5 rfl (Steps.cons (k' := 7) ?s6 rfl (Steps.cons (k' := 8) ?s7 rfl (Steps.cons (k' := 9) ?s8 rfl (Steps.cons (k' := 10) ?s9 rfl (Steps.cons (k' := 11) ?s10 rfl (Steps.cons (k' := 12) ?s11 rfl (Steps.cons (k' := 13) ?s12 rfl (Steps.cons (k' := 14) ?s13 rfl (Steps.cons (k' := 15) ?s14 rfl Steps.nil)))))))))))))))
          case s0 =>
            intro L g' w' hL hd hcl hI K hK
            simp only [full, fillV, Act.put, List.setIfInBounds_toArray, List.set_cons_zero, List.set_cons_succ] at hK ⊢
            have hbx := hI.at'.box
            have b3 : w'.cell? ⟨P, 3, none⟩ = some (.slice (some ⟨o, 0, none⟩) n n) := cell_ok hbx 3
            have b4 : w'.cell? ⟨P, 4, none⟩ = some (.slice (some ⟨f, 0, none⟩) n n) := cell_ok hbx 4
            have hPl := lt_heap hbx
            clear hbx
            have HL := Lib.hid hL; have HD := Lib.hid hd; have HC := Lib.hid hcl; have HJ := Lib.hid hI; have HK := Lib.hid hK
            clear hL hd hcl hI hK
            go_simp
            exact HK.out _ _ g' rfl (fun _ _ => by first | rfl | trivial) (HJ.out.skip (by decide))
          case s1 =>
            intro L g' w' hL hd hcl hI K hK
            simp only [full, fillV, Act.put, List.setIfInBounds_toArray, List.set_cons_zero, List.set_cons_succ] at hK ⊢
            have hbx := hI.at'.box
            have b3 : w'.cell? ⟨P, 3, none⟩ = some (.slice (some ⟨o, 0, none⟩) n n) := cell_ok hbx 3
            have b4 : w'.cell? ⟨P, 4, none⟩ = some (.slice (some ⟨f, 0, none⟩) n n) := cell_ok hbx 4
            have hPl := lt_heap hbx
            clear hbx
            have HL := Lib.hid hL; have HD := Lib.hid hd; have HC := Lib.hid hcl; have HJ := Lib.hid hI; have HK := Lib.hid hK
            clear hL hd hcl hI hK
            go_simp
            exact HK.out _ _ g' rfl (fun _ _ => by first | rfl | trivial) (HJ.out.skip (by decide))
          case s2 =>
            intro L g' w' hL hd hcl hI K hK
            simp only [full, fillV, Act.put, List.setIfInBounds_toArray, List.set_cons_zero, List.set_cons_succ] at hK ⊢
            have hbx := hI.at'.box
            have b3 : w'.cell? ⟨P, 3, none⟩ = some (.slice (some ⟨o, 0, none⟩) n n) := cell_ok hbx 3
            have b4 : w'.cell? ⟨P, 4, none⟩ = some (.slice (some ⟨f, 0, none⟩) n n) := cell_ok hbx 4
            have hPl := lt_heap hbx
            clear hbx
            have HL := Lib.hid hL; have HD := Lib.hid hd; have HC := Lib.hid hcl; have HJ := Lib.hid hI; have HK := Lib.hid hK
            clear hL hd hcl hI hK
            go_simp
            exact HK.out _ _ g' rfl (fun _ _ => by first | rfl | trivial) (HJ.out.skip (by decide))
          case s3 =>
            intro L g' w' hL hd hcl hI K hK
            simp only [full, fillV, Act.put, List.setIfInBounds_toArray, List.set_cons_zero, List.set_cons_succ] at hK ⊢
            have hbx := hI.at'.box
            have b3 : w'.cell? ⟨P, 3, none⟩ = some (.slice (some ⟨o, 0, none⟩) n n) := cell_ok hbx 3
            have b4 : w'.cell? ⟨P, 4, none⟩ = some (.slice (some ⟨f, 0, none⟩) n n) := cell_ok hbx 4
            have hPl := lt_heap hbx
            clear hbx
            have HL := Lib.hid hL; have HD := Lib.hid hd; have HC := Lib.hid hcl; have HJ := Lib.hid hI; have HK := Lib.hid hK
            clear hL hd hcl hI hK
            go_simp
            exact HK.out _ _ g' rfl (fun _ _ => by first | rfl | trivial) (HJ.out.skip (by decide))
          case s4 =>
            intro L g' w' hL hd hcl hI K hK
            simp only [full, fillV, Act.put, List.setIfInBounds_toArray, List.set_cons_zero, List.set_cons_succ] at hK ⊢
            have hbx := hI.at'.box
            have b3 : w'.cell? ⟨P, 3, none⟩ = some (.slice (some ⟨o, 0, none⟩) n n) := cell_ok hbx 3
            have b4 : w'.cell? ⟨P, 4, none⟩ = some (.slice (some ⟨f, 0, none⟩) n n) := cell_ok hbx 4
            have hPl := lt_heap hbx
            clear hbx
            have HL := Lib.hid hL; have HD := Lib.hid hd; have HC := Lib.hid hcl; have HJ := Lib.hid hI; have HK := Lib.hid hK
            clear hL hd hcl hI hK
            go_simp
            exact HK.out _ _ g' rfl (fun _ _ => by first | rfl | trivial) (HJ.out.skip (by decide))
          case s5 =>
            intro L g' w' hL hd hcl hI K hK
            simp only [full, fillV, Act.put, List.setIfInBounds_toArray, List.set_cons_zero, List.set_cons_succ] at hK ⊢
            have hbx := hI.at'.box
            have b3 : w'.cell? ⟨P, 3, none⟩ = some (.slice (some ⟨o, 0, none⟩) n n) := cell_ok hbx 3
            have b4 : w'.cell? ⟨P, 4, none⟩ = some (.slice (some ⟨f, 0, none⟩) n n) := cell_ok hbx 4
            have hPl := lt_heap hbx
            clear hbx
            have HL := Lib.hid hL; have HD := Lib.hid hd; have HC := Lib.hid hcl; have HJ := Lib.hid hI; have HK := Lib.hid hK
            clear hL hd hcl hI hK
            go_simp
            exact HK.out _ _ g' rfl (fun _ _ => by first | rfl | trivial) (HJ.out.skip (by decide))
          case s6 =>
            intro L g' w' hL hd hcl hI K hK
            simp only [full, fillV, Act.put, List.setIfInBounds_toArray, List.set_cons_zero, List.set_cons_succ] at hK ⊢
            have hbx := hI.at'.box
            have b3 : w'.cell? ⟨P, 3, none⟩ = some (.slice (some ⟨o, 0, none⟩) n n) := cell_ok hbx 3
            have b4 : w'.cell? ⟨P, 4, none⟩ = some (.slice (some ⟨f, 0, none⟩) n n) := cell_ok hbx 4
            have hPl := lt_heap hbx
            clear hbx
            have HL := Lib.hid hL; have HD := Lib.hid hd; have HC := Lib.hid hcl; have HJ := Lib.hid hI; have HK := Lib.hid hK
            clear hL hd hcl hI hK
            go_simp
            exact HK.out _ _ g' rfl (fun _ _ => by first | rfl | trivial) (HJ.out.skip (by decide))
          case s7 =>
            intro L g' w' hL hd hcl hI K hK
            simp only [full, fillV, Act.put, List.setIfInBounds_toArray, List.set_cons_zero, List.set_cons_succ] at hK ⊢
            have hbx := hI.at'.box
            have b3 : w'.cell? ⟨P, 3, none⟩ = some (.slice (some ⟨o, 0, none⟩) n n) := cell_ok hbx 3
            have b4 : w'.cell? ⟨P, 4, none⟩ = some (.slice (some ⟨f, 0, none⟩) n n) := cell_ok hbx 4
            have hPl := lt_heap hbx
            clear hbx
            have HL := Lib.hid hL; have HD := Lib.hid hd; have HC := Lib.hid hcl; have HJ := Lib.hid hI; have HK := Lib.hid hK
            clear hL hd hcl hI hK
            go_simp
            exact HK.out _ _ g' rfl (fun _ _ => by first | rfl | trivial) (HJ.out.skip (by decide))
          case s8 =>
            intro L g' w' hL hd hcl hI K hK
            simp only [full, fillV, Act.put, List.setIfInBounds_toArray, List.set_cons_zero, List.set_cons_succ] at hK ⊢
            have hbx := hI.at'.box
            have b3 : w'.cell? ⟨P, 3, none⟩ = some (.slice (some ⟨o, 0, none⟩) n n) := cell_ok hbx 3
            have b4 : w'.cell? ⟨P, 4, none⟩ = some (.slice (some ⟨f, 0, none⟩) n n) := cell_ok hbx 4
            have hPl := lt_heap hbx
            clear hbx
            have HL := Lib.hid hL; have HD := Lib.hid hd; have HC := Lib.hid hcl; have HJ := Lib.hid hI; have HK := Lib.hid hK
            clear hL hd hcl hI hK
            go_simp
            exact HK.out _ _ g' rfl (fun _ _ => by first | rfl | trivial) (HJ.out.skip (by decide))
          case s9 =>
            intro L g' w' hL hd hcl hI K hK
            simp only [full, fillV, Act.put, List.setIfInBounds_toArray, List.set_cons_zero, List.set_cons_succ] at hK ⊢
            have hbx := hI.at'.box
            have b3 : w'.cell? ⟨P, 3, none⟩ = some (.slice (some ⟨o, 0, none⟩) n n) := cell_ok hbx 3
            have b4 : w'.cell? ⟨P, 4, none⟩ = some (.slice (some ⟨f, 0, none⟩) n n) := cell_ok hbx 4
            have hPl := lt_heap hbx
            clear hbx
            have HL := Lib.hid hL; have HD := Lib.hid hd; have HC := Lib.hid hcl; have HJ := Lib.hid hI; have HK := Lib.hid hK
            clear hL hd hcl hI hK
            go_simp
            exact HK.out _ _ g' rfl (fun _ _ => by first | rfl | trivial) (HJ.out.skip (by decide))
          case s10 =>
            intro L g' w' hL hd hcl hI K hK
            simp only [full, fillV, Act.put, List.setIfInBounds_toArray, List.set_cons_zero, List.set_cons_succ] at hK ⊢
            have hbx := hI.at'.box
            have b3 : w'.cell? ⟨P, 3, none⟩ = some (.slice (some ⟨o, 0, none⟩) n n) := cell_ok hbx 3
            have b4 : w'.cell? ⟨P, 4, none⟩ = some (.slice (some ⟨f, 0, none⟩) n n) := cell_ok hbx 4
            have hPl := lt_heap hbx
            clear hbx
            have HL := Lib.hid hL; have HD := Lib.hid hd; have HC := Lib.hid hcl; have HJ := Lib.hid hI; have HK := Lib.hid hK
            clear hL hd hcl hI hK
            go_simp
            exact HK.out _ _ g' rfl (fun _ _ => by first | rfl | trivial) (HJ.out.skip (by decide))
          case s11 =>
            intro L g' w' hL hd hcl hI K hK
            simp only [full, fillV, Act.put, List.setIfInBounds_toArray, List.set_cons_zero, List.set_cons_succ] at hK ⊢
            have hbx := hI.at'.box
            have b3 : w'.cell? ⟨P, 3, none⟩ = some (.slice (some ⟨o, 0, none⟩) n n) := cell_ok hbx 3
            have b4 : w'.cell? ⟨P, 4, none⟩ = some (.slice (some ⟨f, 0, none⟩) n n) := cell_ok hbx 4
            have hPl := lt_heap hbx
            clear hbx
            have HL := Lib.hid hL; have HD := Lib.hid hd; have HC := Lib.hid hcl; have HJ := Lib.hid hI; have HK := Lib.hid hK
            clear hL hd hcl hI hK
            go_simp
            exact HK.out _ _ g' rfl (fun _ _ => by first | rfl | trivial) (HJ.out.skip (by decide))
          case s12 =>
            intro L g' w' hL hd hcl hI K hK
            simp only [full, fillV, Act.put, List.setIfInBounds_toArray, List.set_cons_zero, List.set_cons_succ] at hK ⊢
            have hbx := hI.at'.box
            have b3 : w'.cell? ⟨P, 3, none⟩ = some (.slice (some ⟨o, 0, none⟩) n n) := cell_ok hbx 3
            have b4 : w'.cell? ⟨P, 4, none⟩ = some (.slice (some ⟨f, 0, none⟩) n n) := cell_ok hbx 4
            have hPl := lt_heap hbx
            clear hbx
            have hll : (fillS (Lo.part n j) j (L 12) (L 14)).outer.length = n := by unfold fillS Lo.part; dsimp only; split <;> simp <;> omega
            obtain ⟨y, hy⟩ : ∃ y, (fillS (Lo.part n j) j (L 12) (L 14)).outer[j]? = some y := ⟨_, List.getElem?_eq_getElem (by rw [hll]; exact hjl)⟩
            obtain ⟨z1, z2, z3, z4⟩ := own_at (hI.at'.bag.row _ _ _ hI.at'.outer) hy
            have HLL := Lib.hid hll
            clear hll hy
            have HL := Lib.hid hL; have HD := Lib.hid hd; have HC := Lib.hid hcl; have HJ := Lib.hid hI; have HK := Lib.hid hK
            clear hL hd hcl hI hK
            go_simp
            refine HK.out _ _ g' rfl (fun _ _ => by first | rfl | trivial) ⟨below_put HJ.out.low z3 _ _, ?_⟩
            have h1 := HJ.out.at'.putouter HLL.out hjl (-1)
            have ea : setL L 12 12 = true := setL_eq
            have eb : setL L 12 14 = L 14 := setL_ne (by decide)
            rw [ea, eb]
            rw [HL.out] at h1
            exact h1
          case s13 =>
            intro L g' w' hL hd hcl hI K hK
            simp only [full, fillV, Act.put, List.setIfInBounds_toArray, List.set_cons_zero, List.set_cons_succ] at hK ⊢
            have hbx := hI.at'.box
            have b3 : w'.cell? ⟨P, 3, none⟩ = some (.slice (some ⟨o, 0, none⟩) n n) := cell_ok hbx 3
            have b4 : w'.cell? ⟨P, 4, none⟩ = some (.slice (some ⟨f, 0, none⟩) n n) := cell_ok hbx 4
            have hPl := lt_heap hbx
            clear hbx
            have HL := Lib.hid hL; have HD := Lib.hid hd; have HC := Lib.hid hcl; have HJ := Lib.hid hI; have HK := Lib.hid hK
            clear hL hd hcl hI hK
            go_simp
            exact HK.out _ _ g' rfl (fun _ _ => by first | rfl | trivial) (HJ.out.skip (by decide))
          case s14 =>
            intro L g' w' hL hd hcl hI K hK
            simp only [full, fillV, Act.put, List.setIfInBounds_toArray, List.set_cons_zero, List.set_cons_succ] at hK ⊢
            have hbx := hI.at'.box
            have b3 : w'.cell? ⟨P, 3, none⟩ = some (.slice (some ⟨o, 0, none⟩) n n) := cell_ok hbx 3
            have b4 : w'.cell? ⟨P, 4, none⟩ = some (.slice (some ⟨f, 0, none⟩) n n) := cell_ok hbx 4
            have hPl := lt_heap hbx
            clear hbx
            have hll : (fillS (Lo.part n j) j (L 12) (L 14)).far.length = n := by unfold fillS Lo.part; dsimp only; split <;> simp [uptoz_len n j hj]
            obtain ⟨y, hy⟩ : ∃ y, (fillS (Lo.part n j) j (L 12) (L 14)).far[j]? = some y := ⟨_, List.getElem?_eq_getElem (by rw [hll]; exact hjl)⟩
            obtain ⟨z1, z2, z3, z4⟩ := own_at (hI.at'.bag.row _ _ _ hI.at'.far) hy
            have HLL := Lib.hid hll
            clear hll hy
            have HL := Lib.hid hL; have HD := Lib.hid hd; have HC := Lib.hid hcl; have HJ := Lib.hid hI; have HK := Lib.hid hK
            clear hL hd hcl hI hK
            go_simp
            refine HK.out _ _ g' rfl (fun _ _ => by first | rfl | trivial) ⟨below_put HJ.out.low z3 _ _, ?_⟩
            have h1 := HJ.out.at'.putfar HLL.out hjl (j : Int)
            have ea : setL L 14 14 = true := setL_eq
            have eb : setL L 14 12 = L 12 := setL_ne (by decide)
            rw [ea, eb]
            rw [HL.out] at h1
            exact h1
      · obtain rfl : n = j := by omega
        rw [Lo.part_end] at HLR
        clear hj hjl
        have HGR := Lib.hid (HG.out.below HBR.out)
        have HLRB := HLR; have HBRS := Lib.hid HBR.out.size
        have HORD := Lib.hid (order_any HGR.out HNE.out HIN.out (by rw [← HN.out]; exact hn) HE.out)
        go_upto_region 10 with (go_at_call 15; refine HORD.out.mono ?_; rintro e w3 ⟨lv, rfl, hb3, ho3⟩)
        have HB3 := Lib.hid (HBR.out.trans (hb3.mono HBR.out.size))
        have HL3 := Lib.hid (HLR.out.below hb3)
        have HO3 := Lib.hid ho3
        clear hb3 ho3 HBR HLR HORD HGR
        obtain ⟨ord, hord⟩ : ∃ x, x = orderL g.outs := ⟨_, rfl⟩
        rw [← hord] at HO3 HFOK
        have HORD := Lib.hid hord
        clear hord
        obtain ⟨m, hm⟩ : ∃ m, m = ord.length := ⟨_, rfl⟩
        have HM := Lib.hid hm
        obtain ⟨la, lc, rfl⟩ := own_form HO3.out
        rw [← hm] at HO3 ⊢
        have hm6 : m ≤ maxLen := by
          rcases own_slice HO3.out with ⟨_, h0⟩ | ⟨q, c, h0, _, _, hc⟩
          · omega
          · rcases HO3.out.2 with ⟨h1, h2⟩ | ⟨q', cap', cur, h1, hb', hgg, hcc, hmm, _⟩
            · omega
            · cases h1; omega
        have HM6 := Lib.hid hm6
        have HOB := Lib.hid (show ∀ (l : Lo) (i : Nat) (r : Value × List Int), (rowsD o f n (.slice ta n tc) (.slice ua n uc) l t)[i]? = some r → ∀ q, r.1.ownBlock = some q → (Value.slice la m lc).ownBlock ≠ some q from fun l i r hi q hq e => by
          have h1 := (HO3.out.lt q e).1
          have key : q < wr.heap.size := by
            rcases i with _ | _ | _ | _ | i
            · simp [rowsD] at hi; subst hi; exact (HLRB.out.bag.lt (i := 0) rfl (q := q) hq).2
            · simp [rowsD] at hi; subst hi; exact (HLRB.out.bag.lt (i := 1) rfl (q := q) hq).2
            · simp [rowsD] at hi; subst hi; exact (HLRB.out.bag.lt (i := 2) rfl (q := q) hq).2
            · simp [rowsD] at hi; subst hi; exact (HLRB.out.bag.lt (i := 3) rfl (q := q) hq).2
            · simp [rowsD] at hi
          omega)
        have HO4 := Lib.hid (own_mono HO3.out HBRS.out)
        have hmb := HMB.out
        have HBX3 := Lib.hid ((HB3.out.block G hGl).trans HG.out.box)
        clear hm hm6 HO3 HLRB HBRS
        go_upto_region 11 with (go_at_call 17; refine (len_any HBX3.out).mono ?_; rintro e w4 ⟨rfl, hw⟩; replace hw := hw.symm; subst hw)
        have hbd : Below w3.heap.size w3 (w3.alloc (.cells (madeCells #[.bool false] n) 4)) := (Below.refl _ _).alloc (Nat.le_refl _) _
        have HB5 := Lib.hid (HB3.out.alloc HB3.out.size (.cells (madeCells #[.bool false] n) 4))
        have HL5 := Lib.hid (HL3.out.below hbd)
        have HO5 := Lib.hid (own_below HO4.out hbd)
        obtain ⟨mg, hmg⟩ : ∃ x, x = w3.heap.size := ⟨_, rfl⟩
        have HBO5 := Lib.hid (show (w3.alloc (.cells (madeCells #[.bool false] n) 4)).ownsRow w.heap.size 4 1 (.slice (some ⟨mg, 0, none⟩) n n) n ((List.replicate n false).map Value.bool) from by
          refine ⟨by simp, .inr ⟨mg, n, _, rfl, by rw [hmg]; exact HB3.out.size, alloc_at _ _ _ hmg, Nat.le_refl _, by unfold maxLen; omega, ?_, ?_⟩⟩
          · rw [madeCells_one]; simp
          · rw [madeCells_one]; simp)
        rw [← hmg]
        clear hbd HB3 HL3 HO4 hmg hmb HBX3
        generalize w3.alloc (.cells (madeCells #[.bool false] n) 4) = w5 at *
        obtain ⟨z0, hz0⟩ : ∃ z : Int, z = (m : Int) - 1 := ⟨_, rfl⟩
        have HZ0 := Lib.hid hz0
        have HWZ := Lib.hid (show wrap64 ((m : Int) - 1) = z0 from by rw [hz0]; exact Go.IntWalk.wrap64_in _ (by have := HM6.out; unfold maxLen at this; omega))
        clear hz0
        have hwz := HWZ.out
        go_upto_region 12 with (fail)
        clear hwz
        obtain ⟨KK, hK⟩ : ∃ K, K = 2 * edges g.ins + g.outs.length + 1 := ⟨_, rfl⟩
        rw [← hK, ← HN.out] at HFOK
        obtain ⟨fin, hfin⟩ : ∃ x, x = ord.reverse.foldl (topStep t g.ins KK) (⟨List.replicate n (-1), upto n⟩, List.replicate n false) := ⟨_, rfl⟩
        have HFIN := Lib.hid hfin; have HKK := Lib.hid hK
        clear hfin hK
        go_loopg [7] m (fun k zv wr => ∃ (z : Int) (l : Lo) (tops : List Bool), zv = .int .i64 z ∧ z + 1 = (k : Int) ∧ k ≤ m ∧ l.ok n ∧ tops.length = n ∧ findsOk t g.ins KK (ord.take k).reverse l = true ∧ (ord.take k).reverse.foldl (topStep t g.ins KK) (l, tops) = fin ∧ Below w.heap.size w wr ∧ LoAt w.heap.size wr P G (.slice ta n tc) (.slice ua n uc) (.slice (some ⟨o, 0, none⟩) n n) (.slice (some ⟨f, 0, none⟩) n n) l (rowsD o f n (.slice ta n tc) (.slice ua n uc) l t) 0 ∧ wr.ownsRow w.heap.size 3 1 (.slice la m lc) m (ord.map iV) ∧ wr.ownsRow w.heap.size 4 1 (.slice (some ⟨mg, 0, none⟩) n n) n (tops.map Value.bool))
        case atStart =>
          have htk : ord.take m = ord := by rw [HM.out, List.take_length]
          refine ⟨z0, ⟨List.replicate n (-1), upto n⟩, List.replicate n false, by first | rfl | rw [HWZ.out], by rw [HZ0.out]; omega, Nat.le_refl _, ⟨by simp, by simp [upto], fun x hx => ?_, fun x hx => .inl (List.eq_of_mem_replicate hx)⟩, by simp, by rw [htk]; exact HFOK.out, by rw [htk, HFIN.out], HB5.out, HL5.out, HO5.out, HBO5.out⟩
          exact (Fn.new_ok n).ein x hx
        case round =>
          obtain ⟨z, l, tops, rfl, hzk, hkm, hok, htl, hfo, hfi, hbr, hlr, hor, hbo⟩ := hrel
          have HLR := Lib.hid hlr; have HBR := Lib.hid hbr; have HOR := Lib.hid hor; have HBO := Lib.hid hbo; have HOK := Lib.hid hok; have HTL := Lib.hid htl; have HFO := Lib.hid hfo; have HFI := Lib.hid hfi
          clear hlr hbr hor hbo hok htl hfo hfi
          have HORD2 := Lib.hid (show ∀ x ∈ ord, 0 ≤ x ∧ x < (n : Int) from by rw [HORD.out, HN.out]; exact order_in HNE.out HIN.out)
          by_cases hk0 : gk = 0
          · have qz : decide (0 ≤ z) = false := decide_eq_false (by omega)
            have HE2 := Lib.hid (show (l, tops) = fin from by
              have h1 := HFI.out
              rw [hk0] at h1
              exact h1)
            clear hzk hkm hk0 HFO HFI
            have hmk := HMK.out
            have HBX9 := Lib.hid ((HBR.out.block G hGl).trans HG.out.box)
            go_upto_region 17 with (go_at_call 17; refine (len_any HBX9.out).mono ?_; rintro e w9 ⟨rfl, hw⟩; replace hw := hw.symm; subst hw)
            have hbd : Below wr.heap.size wr (wr.alloc (.cells (madeCells #[.int .i64 0] n) 3)) := (Below.refl _ _).alloc (Nat.le_refl _) _
            have HB5' := Lib.hid (HBR.out.alloc HBR.out.size (.cells (madeCells #[.int .i64 0] n) 3))
            obtain ⟨dg, hdg⟩ : ∃ x, x = wr.heap.size := ⟨_, rfl⟩
            have HL5' := Lib.hid (show LoAt w.heap.size (wr.alloc (.cells (madeCells #[.int .i64 0] n) 3)) P G (.slice ta n tc) (.slice ua n uc) (.slice (some ⟨o, 0, none⟩) n n) (.slice (some ⟨f, 0, none⟩) n n) l (rowsD o f n (.slice ta n tc) (.slice ua n uc) l t ++ [(.slice la m lc, ord)] ++ [(.slice (some ⟨dg, 0, none⟩) n n, List.replicate n 0)]) 0 from by
              have h1 := (HLR.out.below hbd).more (v := .slice la m lc) (xs := ord) (by rw [← HM.out]; exact own_below HOR.out hbd) (HOB.out l)
              refine h1.more (v := .slice (some ⟨dg, 0, none⟩) n n) (xs := List.replicate n 0) (own_made (alloc_at _ _ _ hdg) (by rw [hdg]; exact HBR.out.size) (by unfold maxLen; omega)) (fun i r hi q hq e => ?_)
              have e1 : dg = q := Option.some.inj e
              rcases Nat.lt_or_ge i 4 with h4 | h4
              · rw [List.getElem?_append_left (by simpa [rowsD] using h4)] at hi
                have := (HLR.out.bag.lt hi hq).2
                omega
              · rw [List.getElem?_append_right (by simpa [rowsD] using h4)] at hi
                rcases hd : i - (rowsD o f n (.slice ta n tc) (.slice ua n uc) l t).length with _ | d
                · rw [hd] at hi
                  simp only [List.getElem?_cons_zero, Option.some.injEq] at hi
                  subst hi
                  have := (HOR.out.lt q hq).2
                  omega
                · rw [hd] at hi
                  simp at hi)
            have HBO5' := Lib.hid (own_below HBO.out hbd)
            rw [← hdg]
            clear hbd hmk HBX9 HLR HBR HOR HBO hdg
            generalize wr.alloc (.cells (madeCells #[.int .i64 0] n) 3) = w8 at *
            go_loopw [79] (fun iv wy => ∃ (j : Nat) (d : List Int), j ≤ m ∧ iv = .int .i64 j ∧ d = (ord.take j).foldl (depStep l.outer tops) (List.replicate n 0) ∧ d.length = n ∧ (∀ x ∈ d, 0 ≤ x ∧ x ≤ (j : Int)) ∧ Below w.heap.size w wy ∧ LoAt w.heap.size wy P G (.slice ta n tc) (.slice ua n uc) (.slice (some ⟨o, 0, none⟩) n n) (.slice (some ⟨f, 0, none⟩) n n) l (rowsD o f n (.slice ta n tc) (.slice ua n uc) l t ++ [(.slice la m lc, ord)] ++ [(.slice (some ⟨dg, 0, none⟩) n n, d)]) 0 ∧ wy.ownsRow w.heap.size 4 1 (.slice (some ⟨mg, 0, none⟩) n n) n (tops.map Value.bool)) (fun iv _ => m - (intOf iv).toNat)
            case atStart => exact ⟨0, List.replicate n 0, Nat.zero_le _, rfl, rfl, by simp, (fun x hx => by obtain rfl := List.eq_of_mem_replicate hx; omega), HB5'.out, HL5'.out, HBO5'.out⟩
            case round =>
              obtain ⟨j, d, hj, rfl, hd, hl6, hbd, hby, hly, hboy⟩ := hrel
              have hm6 : m ≤ 9223372036854775807 := by have := HM6.out; unfold maxLen at this; omega
              by_cases hjm : j < m
              · have hji : (j : Int) < (m : Int) := by omega
                obtain ⟨bx, hbx⟩ : ∃ x, ord[j]? = some x := ⟨_, List.getElem?_eq_getElem (by rw [← HM.out]; exact hjm)⟩
                have hbr2 := HORD2.out bx (List.mem_of_getElem? hbx)
                obtain ⟨b, rfl⟩ : ∃ b : Nat, bx = b := ⟨bx.toNat, by omega⟩
                have hbn : b < n := by omega
                have hbi : (b : Int) < (n : Int) := by omega
                have hlr4 := hly.bag.row 4 _ _ rfl
                obtain ⟨lb, hlb, _⟩ := own_head hlr4 (by rw [← HM.out]; omega)
                subst hlb
                obtain ⟨r1, _, _, _⟩ := own_at hlr4 hbx
                have HFT := Lib.hid (show (ord.take (j + 1)).foldl (depStep l.outer tops) (List.replicate n 0) = depStep l.outer tops d b from by rw [foldl_take _ _ hbx, ← hd])
                obtain ⟨ob, hob⟩ : ∃ x, gi l.outer b = x := ⟨_, rfl⟩
                have hor := HOK.out.oin _ (gi_mem (l := l.outer) (v := b) (by rw [HOK.out.ol]; exact hbn))
                rw [hob] at hor
                have r2 := (own_at (hly.bag.row 0 _ _ rfl) (gi_get (l := l.outer) (v := b) (by rw [HOK.out.ol]; exact hbn))).1
                rw [hob] at r2
                have hbx2 := hly.box
                have b3 : wr.cell? ⟨P, 3, none⟩ = some (.slice (some ⟨o, 0, none⟩) n n) := cell_ok hbx2 3
                have hPl := lt_heap hbx2
                have HBD0 := Lib.hid hbd
                by_cases hob1 : ob = -1
                · have qo : (ob == -1) = true := by simpa using hob1
                  have HB6 := Lib.hid hby; have HL6 := Lib.hid hly; have HBO6 := Lib.hid hboy; have HBD := HBD0
                  subst hob1
                  clear hd hbd hby hly hboy hbx hbr2 hlr4 hor hbx2 hj
                  go_upto_region 21 with (fail)
                  clear r1 r2 b3 hPl
                  obtain ⟨tb, htb⟩ : ∃ x, tops[b]? = some x := ⟨_, List.getElem?_eq_getElem (by rw [HTL.out]; exact hbn)⟩
                  have htd : tops.getD b false = tb := by rw [List.getD_eq_getElem?_getD, htb]; rfl
                  obtain ⟨y1, _, _, y4⟩ := bool_at (xs := tops) HBO6.out htb
                  cases tb
                  · have HSTEP := Lib.hid (show depStep l.outer tops d b = d from by
                      unfold depStep
                      dsimp only
                      rw [Int.toNat_natCast, htd, hob, if_neg (by decide), if_neg (by decide)])
                    clear htb htd
                    go_wp2_with (fail)
                    go_roundw
                    case rel => exact ⟨j + 1, d, by omega, by go_num, by rw [HFT.out, HSTEP.out], hl6, fun x hx => by have := HBD.out x hx; omega, HB6.out, HL6.out, HBO6.out⟩
                    case measure => simp [intOf]; omega
                  · obtain ⟨yd, hyd⟩ : ∃ y, gi d b = y := ⟨_, rfl⟩
                    have hyr := HBD.out _ (gi_mem (l := d) (v := b) (by rw [hl6]; exact hbn))
                    rw [hyd] at hyr
                    have HSTEP := Lib.hid (show depStep l.outer tops d b = (d).set b (yd + 1) from by
                      unfold depStep
                      dsimp only
                      rw [Int.toNat_natCast, htd, hob, if_pos rfl, if_neg (by decide), hyd])
                    obtain ⟨u1, u2, u3, u4⟩ := own_at (HL6.out.bag.row 5 _ _ rfl) (gi_get (l := d) (v := b) (by rw [hl6]; exact hbn))
                    rw [hyd] at u1
                    have HWD := Lib.hid (show wrap64 (yd + 1) = yd + 1 from Go.IntWalk.wrap64_in _ (by omega))
                    have HYR := Lib.hid hyr; have HU3 := Lib.hid u3
                    clear htb htd hyd hyr u3
                    have hwd := HWD.out
                    go_wp2_with (fail)
                    clear hwd
                    go_roundw
                    case rel =>
                      refine ⟨j + 1, (d).set b (yd + 1), by omega, by go_num, by rw [HFT.out, HSTEP.out], by rw [List.length_set]; exact hl6, mem_set (fun x hx => by have := HBD.out x hx; omega) b (by have := HYR.out; omega), ?_, ?_, ?_⟩
                      · first | exact below_put HB6.out HU3.out _ _ | (rw [HWD.out]; exact below_put HB6.out HU3.out _ _)
                      · have h9 := HL6.out.putrow (k := 5) rfl (by omega) hl6 hbn (yd + 1)
                        first | exact h9 | (rw [HWD.out]; exact h9)
                      · refine own_keep HBO6.out (fun q hq => Below.heap_setCell _ _ _ _ ?_)
                        intro e
                        exact own_apart HBO6.out (HL6.out.bag.row 5 _ _ rfl) (by decide) hq (by rw [show q = dg from e]; rfl)
                    case measure => simp [intOf]; omega
                · have qo : (ob == -1) = false := by simpa using hob1
                  have hor2 := hor.resolve_left hob1
                  obtain ⟨on, rfl⟩ : ∃ on : Nat, ob = on := ⟨ob.toNat, by omega⟩
                  have honn : on < n := by omega
                  have honi : (on : Int) < (n : Int) := by omega
                  obtain ⟨v0, hv0⟩ : ∃ y, gi d on = y := ⟨_, rfl⟩
                  have hvr := hbd _ (gi_mem (l := d) (v := on) (by rw [hl6]; exact honn))
                  rw [hv0] at hvr
                  have r3 := (own_at (hly.bag.row 5 _ _ rfl) (gi_get (l := d) (v := on) (by rw [hl6]; exact honn))).1
                  rw [hv0] at r3
                  obtain ⟨r4, r5, r6, r7⟩ := own_at (hly.bag.row 5 _ _ rfl) (gi_get (l := d) (v := b) (by rw [hl6]; exact hbn))
                  have HBY := Lib.hid hby; have HLY := Lib.hid hly; have HBOY := Lib.hid hboy
                  have HBD := Lib.hid (mem_set (P := fun x => 0 ≤ x ∧ x ≤ (j : Int)) hbd b hvr)
                  have HR6 := Lib.hid r6
                  clear hd hbd hby hly hboy hbx hbr2 hlr4 hor hor2 hbx2 hj r6
                  go_upto_region 21 with (fail)
                  have HL6 := Lib.hid (HLY.out.putrow (k := 5) rfl (by omega) hl6 hbn v0)
                  have HB6 := Lib.hid (below_put HBY.out HR6.out b (.int .i64 v0))
                  have HBO6 := Lib.hid (show (wr.setCell ⟨dg, b, none⟩ (.int .i64 v0)).ownsRow w.heap.size 4 1 (.slice (some ⟨mg, 0, none⟩) n n) n (tops.map Value.bool) from by
                    refine own_keep HBOY.out (fun q hq => Below.heap_setCell _ _ _ _ ?_)
                    intro e
                    exact own_apart HBOY.out (HLY.out.bag.row 5 _ _ rfl) (by decide) hq (by rw [show q = dg from e]; rfl))
                  clear r1 r2 b3 hPl r3 r4 r5 r7 HBY HLY HBOY
                  generalize wr.setCell ⟨dg, b, none⟩ (.int .i64 v0) = w6 at *
                  have hl6' := hl6
                  replace hl6 : (d.set b v0).length = n := by rw [List.length_set]; exact hl6'
                  obtain ⟨tb, htb⟩ : ∃ x, tops[b]? = some x := ⟨_, List.getElem?_eq_getElem (by rw [HTL.out]; exact hbn)⟩
                  have htd : tops.getD b false = tb := by rw [List.getD_eq_getElem?_getD, htb]; rfl
                  obtain ⟨y1, _, _, y4⟩ := bool_at (xs := tops) HBO6.out htb
                  cases tb
                  · have HSTEP := Lib.hid (show depStep l.outer tops d b = (d.set b v0) from by
                      unfold depStep
                      dsimp only
                      rw [Int.toNat_natCast, htd, hob, if_neg (by decide), if_pos (show ((on : Int) ≠ -1) by omega), hv0])
                    clear htb htd
                    go_wp2_with (fail)
                    go_roundw
                    case rel => exact ⟨j + 1, (d.set b v0), by omega, by go_num, by rw [HFT.out, HSTEP.out], hl6, fun x hx => by have := HBD.out x hx; omega, HB6.out, HL6.out, HBO6.out⟩
                    case measure => simp [intOf]; omega
                  · obtain ⟨yd, hyd⟩ : ∃ y, gi (d.set b v0) b = y := ⟨_, rfl⟩
                    have hyr := HBD.out _ (gi_mem (l := (d.set b v0)) (v := b) (by rw [hl6]; exact hbn))
                    rw [hyd] at hyr
                    have HSTEP := Lib.hid (show depStep l.outer tops d b = ((d.set b v0)).set b (yd + 1) from by
                      unfold depStep
                      dsimp only
                      rw [Int.toNat_natCast, htd, hob, if_pos rfl, if_pos (show ((on : Int) ≠ -1) by omega), hv0, hyd])
                    obtain ⟨u1, u2, u3, u4⟩ := own_at (HL6.out.bag.row 5 _ _ rfl) (gi_get (l := (d.set b v0)) (v := b) (by rw [hl6]; exact hbn))
                    rw [hyd] at u1
                    have HWD := Lib.hid (show wrap64 (yd + 1) = yd + 1 from Go.IntWalk.wrap64_in _ (by omega))
                    have HYR := Lib.hid hyr; have HU3 := Lib.hid u3
                    clear htb htd hyd hyr u3
                    have hwd := HWD.out
                    go_wp2_with (fail)
                    clear hwd
                    go_roundw
                    case rel =>
                      refine ⟨j + 1, ((d.set b v0)).set b (yd + 1), by omega, by go_num, by rw [HFT.out, HSTEP.out], by rw [List.length_set]; exact hl6, mem_set (fun x hx => by have := HBD.out x hx; omega) b (by have := HYR.out; omega), ?_, ?_, ?_⟩
                      · first | exact below_put HB6.out HU3.out _ _ | (rw [HWD.out]; exact below_put HB6.out HU3.out _ _)
                      · have h9 := HL6.out.putrow (k := 5) rfl (by omega) hl6 hbn (yd + 1)
                        first | exact h9 | (rw [HWD.out]; exact h9)
                      · refine own_keep HBO6.out (fun q hq => Below.heap_setCell _ _ _ _ ?_)
                        intro e
                        exact own_apart HBO6.out (HL6.out.bag.row 5 _ _ rfl) (by decide) hq (by rw [show q = dg from e]; rfl)
                    case measure => simp [intOf]; omega
              · obtain rfl : m = j := by omega
                have HE9 := Lib.hid (show depthsL g = d from by
                  have htk : ord.take m = ord := by rw [HM.out, List.take_length]
                  rw [depthsL_eq, ← HORD.out, ← HT.out, ← HKK.out, ← HN.out, ← HFIN.out, ← HE2.out, hd, htk])
                have HDR := Lib.hid (hly.bag.row 5 _ _ rfl)
                have HBY := Lib.hid hby; have HL6 := Lib.hid hl6
                clear hd hl6 hbd hby hly hboy hj hjm
                go_wp2_with (fail)
                go_ret
                refine ⟨_, rfl, HBY.out, ?_⟩
                rw [HE9.out]
                have h9 := HDR.out
                rw [HL6.out] at h9
                exact h9
          · obtain ⟨k', hk'⟩ : ∃ k', gk = k' + 1 := ⟨gk - 1, by omega⟩
            subst hk'
            have hz0 : 0 ≤ z := by omega
            have hzm : z < (m : Int) := by omega
            have hzt : k' = z.toNat := by omega
            obtain ⟨bx, hbx⟩ : ∃ x, ord[k']? = some x := ⟨_, List.getElem?_eq_getElem (by rw [← HM.out]; omega)⟩
            have hbr2 := HORD2.out bx (List.mem_of_getElem? hbx)
            obtain ⟨b, rfl⟩ : ∃ b : Nat, bx = b := ⟨bx.toNat, by omega⟩
            have hbn : b < n := by omega
            have hbi : (b : Int) < (n : Int) := by omega
            obtain ⟨lb, hlb, _⟩ := own_head HOR.out (by omega)
            subst hlb
            obtain ⟨r1, _, _, hlbl⟩ := own_at HOR.out hbx
            obtain ⟨row, hrow⟩ : ∃ r, g.ins[b]? = some r := ⟨_, List.getElem?_eq_getElem (by rw [HJL.out, ← HN.out]; exact hbn)⟩
            have hgr : gr g.ins (b : Int) = row := by unfold gr; rw [Int.toNat_natCast, List.getD_eq_getElem?_getD, hrow]; rfl
            have HTR := Lib.hid (take_rev hbx)
            have hfo2 := HFO.out
            rw [HTR.out] at hfo2
            unfold findsOk at hfo2
            rw [hgr, Bool.and_eq_true] at hfo2
            have hfi2 := HFI.out
            rw [HTR.out, List.foldl_cons] at hfi2
            unfold topStep at hfi2
            dsimp only at hfi2
            rw [hgr, Int.toNat_natCast] at hfi2
            obtain ⟨l', hl'⟩ : ∃ x, x = Lo.find t g.ins b KK (row.filter (fun c => t.over b c)) l := ⟨_, rfl⟩
            obtain ⟨bt, hbt⟩ : ∃ x, x = !(row.filter (fun c => t.over b c)).isEmpty := ⟨_, rfl⟩
            rw [← hl'] at hfo2 hfi2
            rw [← hbt] at hfi2
            have HOK2 := Lib.hid (show l'.ok n from by rw [hl']; exact find_ok hbn (by rw [HN.out]; exact HJN.out) KK _ l HOK.out (fun x hx => by
              have h2 := HJN.out row (List.mem_of_getElem? hrow) x (List.mem_filter.1 hx).1
              rw [← HN.out] at h2
              exact h2))
            have HL' := Lib.hid hl'; have HBT := Lib.hid hbt; have HROW := Lib.hid hrow
            have HFO2 := Lib.hid hfo2; have HFI2 := Lib.hid (show (ord.take k').reverse.foldl (topStep t g.ins KK) (l', tops.set b bt) = fin from hfi2)
            have HZT := Lib.hid hzt; have HZK := Lib.hid hzk
            have HWZ2 := Lib.hid (show wrap64 (z - 1) = z - 1 from Go.IntWalk.wrap64_in _ (by have := HM6.out; unfold maxLen at this; omega))
            rw [hzt] at r1
            clear hfo2 hfi2 hl' hbt hrow hgr hbx hbr2 hk0 HFO HFI r1 hlbl hzt hzk
            go_wp2_with (fail)
            refine wp_region_by (by kernel_rfl) (topV P mg lb n m lc z.toNat b z bt) (TI2 w.heap.size w P G o f n mg b (.slice ta n tc) (.slice ua n uc) (.slice (some ⟨lb, 0, none⟩) m lc) t l l' tops bt ord) 0 (fun _ => rfl) (by kernel_rfl) ?u0 ?usteps ?udone
            case u0 => exact ⟨⟨HBR.out.os, HBR.out.tape, HBR.out.output, HBR.out.size, HBR.out.block⟩, HLR.out.below ⟨rfl, rfl, rfl, Nat.le_refl _, fun _ _ => rfl⟩, by rw [← HM.out]; exact HOR.out, HBO.out⟩
            case udone =>
              intro gg w' hI
              have HB6 := Lib.hid hI.low; have HL6 := Lib.hid hI.at'; have HO6 := Lib.hid hI.orow; have HBO6 := Lib.hid hI.brow
              clear hI
              simp only [full, topV, Act.put, List.setIfInBounds_toArray, List.set_cons_zero, List.set_cons_succ]
              have hwz := HWZ2.out
              go_wp2_with (fail)
              clear hwz
              go_roundg k'
              case measure => omega
              case rel => exact ⟨z - 1, l', tops.set b bt, by first | rfl | rw [HWZ2.out], by have := HZK.out; omega, by omega, HOK2.out, by rw [List.length_set]; exact HTL.out, HFO2.out.2, HFI2.out, HB6.out, HL6.out, by have h9 := HO6.out; rw [← HM.out] at h9; exact h9, HBO6.out⟩
            case usteps =>
              refine (Steps.cons (k' := 1) ?s0 rfl (Steps.cons (k' := 2) ?s1 rfl (Steps.cons (k' := 3) ?s2 rfl (Steps.cons (k' := 4) ?s3 rfl (Steps.cons (k' := 5) ?s4 rfl (Steps.cons (k' := 6) ?s5 rfl (Steps.cons (k' := 7) ?s6 rfl (Steps.cons (k' := 8) ?s7 rfl (Steps.cons (k' := 9) ?s8 rfl (Steps.cons (k' := 10) ?s9 rfl (Steps.cons (k' := 11) ?s10 rfl (Steps.cons (k' := 12) ?s11 rfl (Steps.cons (k' := 13) ?s12 rfl Steps.nil)))))))))))))
              case s0 =>
                intro L g' w' hL hd hcl hI K hK
                simp only [full, topV, Act.put, List.setIfInBounds_toArray, List.set_cons_zero, List.set_cons_succ] at hK ⊢
                have HL := Lib.hid hL; have HD := Lib.hid hd; have HC := Lib.hid hcl; have HJ := Lib.hid hI; have HK := Lib.hid hK
                clear hL hd hcl hI hK
                go_simp
                exact HK.out _ _ g' rfl (fun _ _ => by first | rfl | trivial) (HJ.out.skip (by decide))
              case s1 =>
                intro L g' w' hL hd hcl hI K hK
                simp only [full, topV, Act.put, List.setIfInBounds_toArray, List.set_cons_zero, List.set_cons_succ] at hK ⊢
                have HL := Lib.hid hL; have HD := Lib.hid hd; have HC := Lib.hid hcl; have HJ := Lib.hid hI; have HK := Lib.hid hK
                clear hL hd hcl hI hK
                go_simp
                exact HK.out _ _ g' rfl (fun _ _ => by first | rfl | trivial) (HJ.out.skip (by decide))
              case s2 =>
                intro L g' w' hL hd hcl hI K hK
                simp only [full, topV, Act.put, List.setIfInBounds_toArray, List.set_cons_zero, List.set_cons_succ] at hK ⊢
                have HL := Lib.hid hL; have HD := Lib.hid hd; have HC := Lib.hid hcl; have HJ := Lib.hid hI; have HK := Lib.hid hK
                clear hL hd hcl hI hK
                go_simp
                exact HK.out _ _ g' rfl (fun _ _ => by first | rfl | trivial) (HJ.out.skip (by decide))
              case s3 =>
                intro L g' w' hL hd hcl hI K hK
                simp only [full, topV, Act.put, List.setIfInBounds_toArray, List.set_cons_zero, List.set_cons_succ] at hK ⊢
                have HL := Lib.hid hL; have HD := Lib.hid hd; have HC := Lib.hid hcl; have HJ := Lib.hid hI; have HK := Lib.hid hK
                clear hL hd hcl hI hK
                go_simp
                exact HK.out _ _ g' rfl (fun _ _ => by first | rfl | trivial) (HJ.out.skip (by decide))
              case s4 =>
                intro L g' w' hL hd hcl hI K hK
                simp only [full, topV, Act.put, List.setIfInBounds_toArray, List.set_cons_zero, List.set_cons_succ] at hK ⊢
                obtain ⟨bx, hbx⟩ : ∃ x, ord[z.toNat]? = some x := ⟨_, List.getElem?_eq_getElem (by rw [← HM.out]; omega)⟩
                have hbb : bx = (b : Int) := by
                  have h1 := HTR.out
                  rw [HZT.out, take_rev hbx] at h1
                  exact (List.cons.inj h1).1
                rw [hbb] at hbx
                obtain ⟨r1, _, _, hlbl⟩ := own_at (n := m) hI.orow hbx
                clear hbx hbb
                have HL := Lib.hid hL; have HD := Lib.hid hd; have HC := Lib.hid hcl; have HJ := Lib.hid hI; have HK := Lib.hid hK
                clear hL hd hcl hI hK
                go_simp
                exact HK.out _ _ g' rfl (fun _ _ => by first | rfl | trivial) (HJ.out.skip (by decide))
              case s5 =>
                intro L g' w' hL hd hcl hI K hK
                simp only [full, topV, Act.put, List.setIfInBounds_toArray, List.set_cons_zero, List.set_cons_succ] at hK ⊢
                have HL := Lib.hid hL; have HD := Lib.hid hd; have HC := Lib.hid hcl; have HJ := Lib.hid hI; have HK := Lib.hid hK
                clear hL hd hcl hI hK
                go_simp
                exact HK.out _ _ g' rfl (fun _ _ => by first | rfl | trivial) (HJ.out.skip (by decide))
              case s6 =>
                intro L g' w' hL hd hcl hI K hK
                simp only [full, topV, Act.put, List.setIfInBounds_toArray, List.set_cons_zero, List.set_cons_succ] at hK ⊢
                have HL := Lib.hid hL; have HD := Lib.hid hd; have HC := Lib.hid hcl; have HJ := Lib.hid hI; have HK := Lib.hid hK
                clear hL hd hcl hI hK
                go_simp
                exact HK.out _ _ g' rfl (fun _ _ => by first | rfl | trivial) (HJ.out.skip (by decide))
              case s7 =>
                intro L g' w' hL hd hcl hI K hK
                simp only [full, topV, Act.put, List.setIfInBounds_toArray, List.set_cons_zero, List.set_cons_succ] at hK ⊢
                have HL := Lib.hid hL; have HD := Lib.hid hd; have HC := Lib.hid hcl; have HJ := Lib.hid hI; have HK := Lib.hid hK
                clear hL hd hcl hI hK
                go_simp
                exact HK.out _ _ g' rfl (fun _ _ => by first | rfl | trivial) (HJ.out.skip (by decide))
              case s8 =>
                intro L g' w' hL hd hcl hI K hK
                simp only [full, topV, Act.put, List.setIfInBounds_toArray, List.set_cons_zero, List.set_cons_succ] at hK ⊢
                have HL := Lib.hid hL; have HD := Lib.hid hd; have HC := Lib.hid hcl; have HJ := Lib.hid hI; have HK := Lib.hid hK
                clear hL hd hcl hI hK
                go_simp
                exact HK.out _ _ g' rfl (fun _ _ => by first | rfl | trivial) (HJ.out.skip (by decide))
              case s9 =>
                intro L g' w' hL hd hcl hI K hK
                simp only [full, topV, Act.put, List.setIfInBounds_toArray, List.set_cons_zero, List.set_cons_succ] at hK ⊢
                obtain ⟨bx, hbx⟩ : ∃ x, ord[z.toNat]? = some x := ⟨_, List.getElem?_eq_getElem (by rw [← HM.out]; omega)⟩
                have hbb : bx = (b : Int) := by
                  have h1 := HTR.out
                  rw [HZT.out, take_rev hbx] at h1
                  exact (List.cons.inj h1).1
                rw [hbb] at hbx
                obtain ⟨r1, _, _, hlbl⟩ := own_at (n := m) hI.orow hbx
                clear hbx hbb
                have HL := Lib.hid hL; have HD := Lib.hid hd; have HC := Lib.hid hcl; have HJ := Lib.hid hI; have HK := Lib.hid hK
                clear hL hd hcl hI hK
                go_simp
                exact HK.out _ _ g' rfl (fun _ _ => by first | rfl | trivial) (HJ.out.skip (by decide))
              case s10 =>
                intro L g' w' hL hd hcl hI K hK
                simp only [full, topV, Act.put, List.setIfInBounds_toArray, List.set_cons_zero, List.set_cons_succ] at hK ⊢
                have l11 : L 12 = false := hcl.not 12 10 (by kernel_rfl) hL
                have ha := hI.at'
                rw [hL] at ha
                have HA := Lib.hid (show LoAt w.heap.size w' P G (.slice ta n tc) (.slice ua n uc) (.slice (some ⟨o, 0, none⟩) n n) (.slice (some ⟨f, 0, none⟩) n n) l (rowsD o f n (.slice ta n tc) (.slice ua n uc) l t) 0 from ha)
                have HC1 := Lib.hid ((hI.low.cell (p := ⟨G, 1, none⟩) hGl).trans c1)
                have HIN2 := Lib.hid (HINS.out.below hI.low hjgl)
                clear ha
                have HL := Lib.hid hL; have HD := Lib.hid hd; have HC := Lib.hid hcl; have HJ := Lib.hid hI; have HK := Lib.hid hK
                clear hL hd hcl hI hK
                go_simp
                have HFD := find_any (it := 2) (iu := 3) (x0 := undef) (ic := jc) HA.out HOK.out hn rfl rfl (by omega) (by rw [HN.out]; exact HTOK.out) hGl HC1.out hjgl (by rw [HJL.out]; exact HN.out.symm) HIN2.out (by rw [HN.out]; exact HJN.out) b hbn row HROW.out KK HFO2.out.1
                refine HFD.mono ?_
                rintro e w2 ⟨rfl, hb, hkp, rs2, hl2, hr2⟩
                rw [← HBT.out]
                refine HK.out _ _ g' rfl (fun _ _ => by first | rfl | trivial) ⟨HJ.out.low.trans hb, ?_, ?_, ?_⟩
                · rw [setL_eq]
                  have h1 := rowsD_of hl2 hr2
                  rw [h1, ← HL'.out] at hl2
                  exact hl2
                · exact own_keep HJ.out.orow (fun q hq => hkp.2 q (HJ.out.orow.lt q hq).2 (fun e => HOB.out l 0 _ rfl q e hq) (fun e => HOB.out l 1 _ rfl q e hq))
                · have e12 : setL L 10 12 = L 12 := setL_ne (by decide)
                  rw [e12]
                  exact own_keep HJ.out.brow (fun q hq => hkp.2 q (HJ.out.brow.lt q hq).2 (own_apart HJ.out.brow (HA.out.bag.row 0 _ _ rfl) (by decide) hq) (own_apart HJ.out.brow (HA.out.bag.row 1 _ _ rfl) (by decide) hq))
              case s11 =>
                intro L g' w' hL hd hcl hI K hK
                simp only [full, topV, Act.put, List.setIfInBounds_toArray, List.set_cons_zero, List.set_cons_succ] at hK ⊢
                have HL := Lib.hid hL; have HD := Lib.hid hd; have HC := Lib.hid hcl; have HJ := Lib.hid hI; have HK := Lib.hid hK
                clear hL hd hcl hI hK
                go_simp
                exact HK.out _ _ g' rfl (fun _ _ => by first | rfl | trivial) (HJ.out.skip (by decide))
              case s12 =>
                intro L g' w' hL hd hcl hI K hK
                simp only [full, topV, Act.put, List.setIfInBounds_toArray, List.set_cons_zero, List.set_cons_succ] at hK ⊢
                have l10 : L 10 = true := dep_of hd 10 (by kernel_rfl)
                have hb0 := hI.brow
                rw [hL] at hb0
                obtain ⟨tb, htb⟩ : ∃ x, tops[b]? = some x := ⟨_, List.getElem?_eq_getElem (by rw [HTL.out]; exact hbn)⟩
                obtain ⟨z1, z2, z3, z4⟩ := bool_at (xs := tops) hb0 htb
                have HB0 := Lib.hid hb0
                clear hb0 htb
                have HL := Lib.hid hL; have HD := Lib.hid hd; have HC := Lib.hid hcl; have HJ := Lib.hid hI; have HK := Lib.hid hK
                clear hL hd hcl hI hK
                go_simp
                refine HK.out _ _ g' rfl (fun _ _ => by first | rfl | trivial) ?_
                have hlx := HJ.out.at'
                have hne : ∀ (i : Nat) (r : Value × List Int), (rowsD o f n (.slice ta n tc) (.slice ua n uc) (if L 10 then l' else l) t)[i]? = some r → ∀ q, r.1.ownBlock = some q → q ≠ mg := fun i r hi q hq e => own_apart HB0.out (hlx.bag.row i _ _ hi) (by decide) rfl (by rw [hq]; exact congrArg some e)
                obtain ⟨cs, hcs⟩ := own_type HB0.out (q := mg) rfl
                have hPm : P ≠ mg := ne_type HB0.out hlx.box (by decide) rfl
                refine ⟨below_put HJ.out.low z3 _ _, ?_, ?_, ?_⟩
                · have e10 : setL L 12 10 = L 10 := setL_ne (by decide)
                  rw [e10]
                  exact ⟨(Below.heap_setCell _ _ _ _ hPm).trans hlx.box, hlx.low, hlx.bag.other hcs (by decide) b _, hlx.outer, hlx.far⟩
                · refine own_keep HJ.out.orow (fun q hq => Below.heap_setCell _ _ _ _ ?_)
                  intro e
                  exact own_apart HJ.out.orow HB0.out (by decide) hq (by rw [show q = mg from e]; rfl)
                · rw [setL_eq]
                  have h1 := own_put HB0.out hbn (Value.bool bt)
                  simp only [if_true]
                  rw [List.map_set]
                  exact h1
end Go.Proofs.Ytipongpgmbhpkaa
