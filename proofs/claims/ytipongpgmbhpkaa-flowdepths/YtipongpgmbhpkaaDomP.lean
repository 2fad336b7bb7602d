/-
  dom: above.
-/
import Derived.Test.YtipongpgmbhpkaaDomO
namespace Go.Proofs.Ytipongpgmbhpkaa
open Go.ChangeShapes Go.WideShapes Go.ChangeAt Go.RowKit
open Go.Proofs.Ytipongpgmbhpkaa.RegInv
set_option linter.unusedVariables false

theorem own_mono {B B' : Nat} {w : World} {e : TypeId} {s n : Nat} {v : Value} {xs : List Value} (h : w.ownsRow B e s v n xs) (hB : B' ≤ B) : w.ownsRow B' e s v n xs := by
  refine ⟨h.1, ?_⟩
  rcases h.2 with hn | ⟨g, cap, cur, rfl, hb, rest⟩
  · exact .inl hn
  · exact .inr ⟨g, cap, cur, rfl, by omega, rest⟩
theorem FinderAt.mono {B B' : Nat} {w : World} {F : Nat} {hv ev bv : Value} {f : Fn} {rs : List (Value × List Int)} {i : Nat} (h : FinderAt B w F hv ev bv f rs i) (hB : B' ≤ B) : FinderAt B' w F hv ev bv f rs i :=
  ⟨h.box, Nat.le_trans hB h.low, ⟨fun k v xs hk => own_mono (h.bag.row k v xs hk) hB, h.bag.apart⟩, h.hangs, h.entry, h.best⟩
abbrev AG := (Nat × Value × Value × Value) × Nat × Nat
structure AI (n : Nat) (w1 : World) (L : Nat → Bool) (g : AG) (w : World) : Prop where
  low : Below w1.heap.size w1 w
  fin : L 1 = true → FinderAt w1.heap.size w g.1.1 g.1.2.1 g.1.2.2.1 g.1.2.2.2 (Fn.new n) (rowsF g.1.2.1 g.1.2.2.1 g.1.2.2.2 (Fn.new n)) 0
  out : L 3 = true → w1.heap.size ≤ g.2.1 ∧ w.heap[g.2.1]? = some (.cells (madeCells #[.int .i64 0] n) 3 (0, 0))
  wait : L 5 = true → w1.heap.size ≤ g.2.2 ∧ w.heap[g.2.2]? = some (.cells (madeCells #[.slice none 0 0] n) 35 (0, 0))
  ne : L 1 = true → L 3 = true → ∀ (i : Nat) (r : Value × List Int), (rowsF g.1.2.1 g.1.2.2.1 g.1.2.2.2 (Fn.new n))[i]? = some r → ∀ q, r.1.ownBlock = some q → q ≠ g.2.1
theorem AI.skip {n : Nat} {w1 : World} {L : Nat → Bool} {g : AG} {w : World} (h : AI n w1 L g w) {i : Nat} (hi : 1 ≠ i ∧ 3 ≠ i ∧ 5 ≠ i) : AI n w1 (setL L i) g w := by
  obtain ⟨h0, h1, h2, h3, h4⟩ := h
  obtain ⟨a, b, c⟩ := hi
  refine ⟨h0, ?_, ?_, ?_, ?_⟩
  · rw [setL_ne a]; exact h1
  · rw [setL_ne b]; exact h2
  · rw [setL_ne c]; exact h3
  · rw [setL_ne a, setL_ne b]; exact h4
theorem old_below {w w' : World} {o : Obj} {q B : Nat} (h : B ≤ q ∧ w.heap[q]? = some o) (hb : Below w.heap.size w w') : B ≤ q ∧ w'.heap[q]? = some o := ⟨h.1, (hb.block q (lt_heap h.2)).trans h.2⟩
theorem AI.call {n : Nat} {w1 : World} {L : Nat → Bool} {g : AG} {w w2 : World} (h : AI n w1 L g w) {F : Nat} {hv ev bv : Value} (hb : Below w.heap.size w w2) (hf : FinderAt w.heap.size w2 F hv ev bv (Fn.new n) (rowsF hv ev bv (Fn.new n)) 0) : AI n w1 (setL L 1) ((F, hv, ev, bv), g.2) w2 := by
  refine ⟨h.low.trans (hb.mono h.low.size), fun _ => hf.mono h.low.size, fun a => ?_, fun a => ?_, fun _ a i r hi q hq => ?_⟩
  · rw [setL_ne (by decide)] at a; exact old_below (h.out a) hb
  · rw [setL_ne (by decide)] at a; exact old_below (h.wait a) hb
  · rw [setL_ne (by decide)] at a
    have h1 := lt_heap (h.out a).2
    have h2 := (hf.bag.lt hi hq).1
    show q ≠ g.2.1
    omega
theorem AI.m3 {n : Nat} {w1 : World} {L : Nat → Bool} {g : AG} {w : World} (h : AI n w1 L g w) : AI n w1 (setL L 3) (g.1, w.heap.size, g.2.2) (w.alloc (.cells (madeCells #[.int .i64 0] n) 3 (0, 0))) := by
  have hb : Below w.heap.size w (w.alloc (.cells (madeCells #[.int .i64 0] n) 3 (0, 0))) := (Below.refl _ _).alloc (Nat.le_refl _) _
  refine ⟨h.low.alloc h.low.size _, fun a => ?_, fun _ => ⟨h.low.size, alloc_at _ _ _ rfl⟩, fun a => ?_, fun a _ i r hi q hq => ?_⟩
  · rw [setL_ne (by decide)] at a; exact (h.fin a).below hb
  · rw [setL_ne (by decide)] at a; exact old_below (h.wait a) hb
  · rw [setL_ne (by decide)] at a
    have := ((h.fin a).bag.lt hi hq).2
    show q ≠ w.heap.size
    omega
theorem AI.m5 {n : Nat} {w1 : World} {L : Nat → Bool} {g : AG} {w : World} (h : AI n w1 L g w) : AI n w1 (setL L 5) (g.1, g.2.1, w.heap.size) (w.alloc (.cells (madeCells #[.slice none 0 0] n) 35 (0, 0))) := by
  have hb : Below w.heap.size w (w.alloc (.cells (madeCells #[.slice none 0 0] n) 35 (0, 0))) := (Below.refl _ _).alloc (Nat.le_refl _) _
  refine ⟨h.low.alloc h.low.size _, fun a => ?_, fun a => ?_, fun _ => ⟨h.low.size, alloc_at _ _ _ rfl⟩, fun a b => ?_⟩
  · rw [setL_ne (by decide)] at a; exact (h.fin a).below hb
  · rw [setL_ne (by decide)] at a; exact old_below (h.out a) hb
  · rw [setL_ne (by decide)] at a b; exact h.ne a b
def aV (n : Nat) (g : AG) : List Value :=
  [.int .i64 n, .pointer (some ⟨g.1.1, 0, none⟩), .int .i64 n, .slice (some ⟨g.2.1, 0, none⟩) n n, .int .i64 n, .slice (some ⟨g.2.2, 0, none⟩) n n, .pointer (some ⟨g.1.1, 0, none⟩), .slice (some ⟨g.2.1, 0, none⟩) n n, .slice (some ⟨g.2.2, 0, none⟩) n n]
theorem Bag.nils {B : Nat} {w : World} {rs : List (Value × List Int)} (h : Bag B w rs) (n : Nat) : Bag B w (rs ++ List.replicate n (.slice none 0 0, [])) := by
  have key : ∀ (k : Nat) (r : Value × List Int), (rs ++ List.replicate n (Value.slice none 0 0, []))[k]? = some r → rs[k]? = some r ∨ r = (.slice none 0 0, []) := by
    intro k r hk
    rcases Nat.lt_or_ge k rs.length with hlt | hge
    · rw [List.getElem?_append_left hlt] at hk; exact .inl hk
    · rw [List.getElem?_append_right hge, List.getElem?_replicate] at hk
      split at hk
      · cases hk; exact .inr rfl
      · cases hk
  refine ⟨fun k u ys hk => ?_, fun k l r s hr hs hne q hq => ?_⟩
  · rcases key k _ hk with e | e
    · exact h.row k u ys e
    · cases e; exact own_nil _ _ _
  · rcases key k _ hr with e | e
    · rcases key l _ hs with e2 | e2
      · exact h.apart k l r s e e2 hne q hq
      · subst e2; intro e3; cases e3
    · subst e; cases hq
theorem Fn.new_ok (n : Nat) : (Fn.new n).ok n := by
  have hu : ∀ x ∈ upto n, 0 ≤ x ∧ x < (n : Int) := by
    intro x hx
    obtain ⟨k, hk, rfl⟩ := List.mem_map.1 hx
    rw [List.mem_range] at hk
    exact ⟨by simp, by show (k : Int) < n; omega⟩
  refine ⟨by simp [Fn.new], by simp [Fn.new, upto], by simp [Fn.new, upto], fun v x hx => ?_, hu, hu⟩
  unfold Fn.new at hx
  dsimp only at hx
  rw [List.getElem?_replicate] at hx
  split at hx
  · cases hx; exact .inl rfl
  · cases hx
theorem Ab.new_ok {n : Nat} (hn : 0 < n) : Ab.ok ⟨Fn.new n, List.replicate n 0, List.replicate n []⟩ n 0 := by
  refine ⟨Fn.new_ok n, by simp, by simp, fun x hx => ?_, fun r hr x hx => ?_, fun r hr => ?_⟩
  · obtain rfl := List.eq_of_mem_replicate hx; omega
  · obtain rfl := List.eq_of_mem_replicate hr; cases hx
  · obtain rfl := List.eq_of_mem_replicate hr; exact Nat.le_refl _
theorem down_succ (k : Nat) : down (k + 2) = (k + 1) :: down (k + 1) := by
  unfold down
  rw [show k + 2 = (k + 1) + 1 by omega, List.range_succ, List.drop_append_of_le_length (by simp), List.reverse_append]
  rfl
theorem infoRow : (Try.prog.info? 35).map (fun i => (i.zero, i.size, i.bytes)) = some (some (.slice none 0 0), 1, 24) := by kernel_rfl
def stC (v : Nat) (a : Ab) (src : Int) (c d : Bool) : Ab := if d then Ab.came v a src else if c then ⟨(a.f.least src).2, a.out, a.waiting⟩ else a
theorem stC_entry (v : Nat) (a : Ab) (src : Int) (c : Bool) : (stC v a src c false).f.entry = a.f.entry := by
  unfold stC
  cases c
  · rfl
  · exact least_entry _ _
structure CI (B : Nat) (w0 : World) (F : Nat) (hv ev bv ov wv : Value) (ws : List Value) (v : Nat) (a : Ab) (src : Int) (L : Nat → Bool) (g : Nat) (w : World) : Prop where
  low : Below B w0 w
  at' : AbAt B w F hv ev bv ov wv ws (stC v a src (L 18) (L 23))
theorem CI.skip {B : Nat} {w0 : World} {F : Nat} {hv ev bv ov wv : Value} {ws : List Value} {v : Nat} {a : Ab} {src : Int} {L : Nat → Bool} {g : Nat} {w : World} (h : CI B w0 F hv ev bv ov wv ws v a src L g w) {i : Nat} (hi : 18 ≠ i ∧ 23 ≠ i) : CI B w0 F hv ev bv ov wv ws v a src (setL L i) g w := by
  refine ⟨h.low, ?_⟩
  rw [setL_ne hi.1, setL_ne hi.2]
  exact h.at'
theorem CI.ent {B : Nat} {w0 : World} {F eg n ec : Nat} {hv bv ov wv : Value} {ws : List Value} {v : Nat} {a : Ab} {src : Int} {L : Nat → Bool} {g : Nat} {w : World} (h : CI B w0 F hv (.slice (some ⟨eg, 0, none⟩) n ec) bv ov wv ws v a src L g w) (h23 : L 23 = false) {j : Nat} (hj : j < a.f.entry.length) : w.cell? ⟨eg, j, none⟩ = some (.int .i64 (gi a.f.entry j)) := by
  have h1 := h.at'
  rw [h23] at h1
  have h2 := h1.fin.bag.row _ _ _ h1.fin.entry
  rw [stC_entry] at h2
  exact (own_at h2 (gi_get hj)).1
def dV (F eg n ec v en wg m : Nat) (h0 : Value) (g : Nat × Nat × Nat) : List Value :=
  [.slice (some ⟨wg, 0, none⟩) n n, .pointer (some ⟨F, 0, none⟩), .pointer (some ⟨F, 0, none⟩), .pointer (some ⟨F, 1, none⟩), .slice (some ⟨eg, 0, none⟩) n ec, .int .i64 v, .pointer (some ⟨eg, v, none⟩), .int .i64 en,
   .slice (some ⟨wg, 0, none⟩) n n, .pointer (some ⟨F, 0, none⟩), .pointer (some ⟨F, 0, none⟩), .pointer (some ⟨F, 1, none⟩), .slice (some ⟨eg, 0, none⟩) n ec, .int .i64 v, .pointer (some ⟨eg, v, none⟩), .int .i64 en,
   .pointer (some ⟨wg, en, none⟩), h0, .int .i64 v, .slice (some ⟨g.1, 0, none⟩) 1 1, .slice (some ⟨g.2.1, 0, none⟩) (m + 1) g.2.2, .pointer (some ⟨wg, en, none⟩), undef]
theorem wait_keeps (p : Int) : ∀ (l : List Int) (a : Ab), (l.foldl (Ab.wait p) a).waiting = a.waiting
  | [], _ => rfl
  | x :: xs, a => by rw [List.foldl_cons, wait_keeps p xs]; rfl
def cV (F eg n ec v sc r1 : Nat) (e0 e1 : Int) (g : Nat) : List Value :=
  [.pointer (some ⟨F, 0, none⟩), .pointer (some ⟨F, 0, none⟩), .pointer (some ⟨F, 1, none⟩), .slice (some ⟨eg, 0, none⟩) n ec, .int .i64 v,
   .pointer (some ⟨F, 0, none⟩), .pointer (some ⟨F, 0, none⟩), .pointer (some ⟨F, 1, none⟩), .slice (some ⟨eg, 0, none⟩) n ec, .int .i64 v, .pointer (some ⟨eg, v, none⟩), .int .i64 e0,
   .pointer (some ⟨F, 0, none⟩), .pointer (some ⟨F, 0, none⟩), .pointer (some ⟨F, 1, none⟩), .slice (some ⟨eg, 0, none⟩) n ec, .pointer (some ⟨F, 0, none⟩), .int .i64 sc, .int .i64 r1, .pointer (some ⟨eg, r1, none⟩), .int .i64 e1, .int .i64 (min e0 e1), .pointer (some ⟨eg, v, none⟩), undef]
set_option maxHeartbeats 16000000 in
set_option maxRecDepth 100000 in
theorem above_any {w : World} {B0 W n : Nat} {nv pv iv : Value} {hs : List Value} {s : Wk} (h : WalkAt B0 w W nv pv iv hs s []) (hok : s.ok) (hok2 : s.ok2) (hpn : s.par.length = n) (hpos : 0 < n) (hn : n ≤ 1000000) (hrows : ∀ r ∈ s.ins, r.length ≤ 1000000000) :
    Calls Try.prog 25 #[.pointer (some ⟨W, 0, none⟩)] w fun e w' => ∃ ov, e = .returned ov ∧ Below w.heap.size w w' ∧ w'.ownsRow w.heap.size 3 1 ov n ((aboveL s).map iV) := by
  obtain ⟨i0, hi, hz0⟩ := Option.map_eq_some_iff.1 info3
  obtain ⟨h1, h2, h3⟩ : i0.zero = some (.int .i64 0) ∧ i0.size = 1 ∧ i0.bytes = 8 := by simpa using hz0
  have HI := Lib.hid hi; have HZ0 := Lib.hid h1; have HZ1 := Lib.hid h2; have HZ2 := Lib.hid h3
  clear hi h1 h2 h3 hz0
  have hil : hs.length = n := by rw [h.len, hok.2]; exact hpn
  obtain ⟨pg, pc, rfl⟩ : ∃ g c, pv = .slice (some ⟨g, 0, none⟩) n c := by
    rcases own_slice (h.bag.row 1 _ _ rfl) with ⟨_, h0⟩ | ⟨g, c, h0, _⟩
    · omega
    · exact ⟨g, c, by rw [h0, hpn]⟩
  obtain ⟨ig, ic, rfl⟩ : ∃ g c, iv = .slice (some ⟨g, 0, none⟩) n c := by
    rcases own_slice h.hdr with ⟨_, h0⟩ | ⟨g, c, h0, _⟩
    · omega
    · exact ⟨g, c, by rw [h0, hil]⟩
  obtain ⟨⟨c0, c1, c2⟩, _, hWl⟩ := wbox h.box
  have HW := Lib.hid h; have HOK := Lib.hid hok; have HOK2 := Lib.hid hok2; have HPN := Lib.hid hpn; have HROWS := Lib.hid hrows; have HIL := Lib.hid hil
  clear h hok hok2 hpn hrows hil
  have hmk := run_make_row' (P := Try.prog) 35 3 (.int .i64 0) 8 Try.underlying35 info3 rfl .i64 .i64 n (by omega) (by omega)
  have hmk2 := run_make_row' (P := Try.prog) 22 35 (.slice none 0 0) 24 Try.underlying22 infoRow rfl .i64 .i64 n (by omega) (by omega)
  have HMK := Lib.hid hmk; have HMK2 := Lib.hid hmk2
  clear hmk hmk2
  go_enter Try.func25, Try.ntmps25
  go_wp2_with (fail)
  refine wp_region_by (by kernel_rfl) (aV n) (AI n w) ((0, undef, undef, undef), 0, 0) (fun _ => rfl) (by kernel_rfl) ?h0 ?steps ?done
  case h0 => exact ⟨⟨rfl, rfl, rfl, Nat.le_refl _, fun _ _ => rfl⟩, fun a => by simp at a, fun a => by simp at a, fun a => by simp at a, fun a => by simp at a⟩
  case steps =>
    have hmk := HMK.out; have hmk2 := HMK2.out
    refine (Steps.cons (k' := 1) ?s0 rfl (Steps.cons (k' := 2) ?s1 rfl (Steps.cons (k' := 3) ?s2 rfl (Steps.cons (k' := 4) ?s3 rfl (Steps.cons (k' := 5) ?s4 rfl (Steps.cons (k' := 6) ?s5 rfl (Steps.cons (k' := 7) ?s6 rfl (Steps.cons (k' := 8) ?s7 rfl (Steps.cons (k' := 9) ?s8 rfl Steps.nil)))))))))
    case s0 =>
      intro L g w' hL hd hcl hI K hK
      simp only [full, aV, Act.put, List.setIfInBounds_toArray, List.set_cons_zero, List.set_cons_succ] at hK ⊢
      have HL := Lib.hid hL; have HD := Lib.hid hd; have HC := Lib.hid hcl; have HJ := Lib.hid hI; have HK := Lib.hid hK
      clear hL hd hcl hI hK
      go_simp
      exact HK.out _ _ g rfl (fun _ _ => rfl) (HJ.out.skip (by decide))
    case s1 =>
      intro L g w' hL hd hcl hI K hK
      simp only [full, aV, Act.put, List.setIfInBounds_toArray, List.set_cons_zero, List.set_cons_succ] at hK ⊢
      have l6 : L 6 = false := hcl.not 6 1 (by kernel_rfl) hL
      have HL := Lib.hid hL; have HD := Lib.hid hd; have HC := Lib.hid hcl; have HJ := Lib.hid hI; have HK := Lib.hid hK
      clear hL hd hcl hI hK
      go_simp
      refine (newFinder_any n hn).mono ?_
      rintro e w2 ⟨F, hv, ev, bv, rfl, hb, hf⟩
      exact HK.out _ _ ((F, hv, ev, bv), g.2) rfl (get_trans (set_get 1 HL.out rfl) (set_get 6 l6 rfl)) (HJ.out.call hb hf)
    case s2 =>
      intro L g w' hL hd hcl hI K hK
      simp only [full, aV, Act.put, List.setIfInBounds_toArray, List.set_cons_zero, List.set_cons_succ] at hK ⊢
      have HL := Lib.hid hL; have HD := Lib.hid hd; have HC := Lib.hid hcl; have HJ := Lib.hid hI; have HK := Lib.hid hK
      clear hL hd hcl hI hK
      go_simp
      exact HK.out _ _ g rfl (fun _ _ => rfl) (HJ.out.skip (by decide))
    case s3 =>
      intro L g w' hL hd hcl hI K hK
      simp only [full, aV, Act.put, List.setIfInBounds_toArray, List.set_cons_zero, List.set_cons_succ] at hK ⊢
      have l7 : L 7 = false := hcl.not 7 3 (by kernel_rfl) hL
      have HL := Lib.hid hL; have HD := Lib.hid hd; have HC := Lib.hid hcl; have HJ := Lib.hid hI; have HK := Lib.hid hK
      clear hL hd hcl hI hK
      go_simp
      exact HK.out _ _ (g.1, w'.heap.size, g.2.2) rfl (get_trans (set_get 3 HL.out rfl) (set_get 7 l7 rfl)) (HJ.out.m3)
    case s4 =>
      intro L g w' hL hd hcl hI K hK
      simp only [full, aV, Act.put, List.setIfInBounds_toArray, List.set_cons_zero, List.set_cons_succ] at hK ⊢
      have HL := Lib.hid hL; have HD := Lib.hid hd; have HC := Lib.hid hcl; have HJ := Lib.hid hI; have HK := Lib.hid hK
      clear hL hd hcl hI hK
      go_simp
      exact HK.out _ _ g rfl (fun _ _ => rfl) (HJ.out.skip (by decide))
    case s5 =>
      intro L g w' hL hd hcl hI K hK
      simp only [full, aV, Act.put, List.setIfInBounds_toArray, List.set_cons_zero, List.set_cons_succ] at hK ⊢
      have l8 : L 8 = false := hcl.not 8 5 (by kernel_rfl) hL
      have HL := Lib.hid hL; have HD := Lib.hid hd; have HC := Lib.hid hcl; have HJ := Lib.hid hI; have HK := Lib.hid hK
      clear hL hd hcl hI hK
      go_simp
      exact HK.out _ _ (g.1, g.2.1, w'.heap.size) rfl (get_trans (set_get 5 HL.out rfl) (set_get 8 l8 rfl)) (HJ.out.m5)
    case s6 =>
      intro L g w' hL hd hcl hI K hK
      simp only [full, aV, Act.put, List.setIfInBounds_toArray, List.set_cons_zero, List.set_cons_succ] at hK ⊢
      have HL := Lib.hid hL; have HD := Lib.hid hd; have HC := Lib.hid hcl; have HJ := Lib.hid hI; have HK := Lib.hid hK
      clear hL hd hcl hI hK
      go_simp
      exact HK.out _ _ g rfl (fun _ _ => rfl) (HJ.out.skip (by decide))
    case s7 =>
      intro L g w' hL hd hcl hI K hK
      simp only [full, aV, Act.put, List.setIfInBounds_toArray, List.set_cons_zero, List.set_cons_succ] at hK ⊢
      have HL := Lib.hid hL; have HD := Lib.hid hd; have HC := Lib.hid hcl; have HJ := Lib.hid hI; have HK := Lib.hid hK
      clear hL hd hcl hI hK
      go_simp
      exact HK.out _ _ g rfl (fun _ _ => rfl) (HJ.out.skip (by decide))
    case s8 =>
      intro L g w' hL hd hcl hI K hK
      simp only [full, aV, Act.put, List.setIfInBounds_toArray, List.set_cons_zero, List.set_cons_succ] at hK ⊢
      have HL := Lib.hid hL; have HD := Lib.hid hd; have HC := Lib.hid hcl; have HJ := Lib.hid hI; have HK := Lib.hid hK
      clear hL hd hcl hI hK
      go_simp
      exact HK.out _ _ g rfl (fun _ _ => rfl) (HJ.out.skip (by decide))
  case done =>
    intro g w1 hI
    have hf := hI.fin rfl
    obtain ⟨o1, o2⟩ := hI.out rfl
    obtain ⟨t1, t2⟩ := hI.wait rfl
    have hne := hI.ne rfl rfl
    have HB := Lib.hid hI.low
    obtain ⟨⟨F, hv, ev, bv⟩, og, wg⟩ := g
    have hAB : AbAt w.heap.size w1 F hv ev bv (.slice (some ⟨og, 0, none⟩) n n) (.slice (some ⟨wg, 0, none⟩) n n) (List.replicate n (.slice none 0 0)) ⟨Fn.new n, List.replicate n 0, List.replicate n []⟩ := by
      have hb := (hf.bag.more (.slice (some ⟨og, 0, none⟩) n n) (List.replicate n 0) (own_made o2 o1 (by unfold maxLen; omega)) (fun i r hi q hq e => hne i r hi q hq (Option.some.inj e).symm)).nils n
      refine ⟨⟨hf.box, hf.low, ?_, rfl, rfl, rfl⟩, ?_, by simp⟩
      · have e : rowsA hv ev bv (.slice (some ⟨og, 0, none⟩) n n) (List.replicate n (.slice none 0 0)) ⟨Fn.new n, List.replicate n 0, List.replicate n []⟩ = (rowsF hv ev bv (Fn.new n) ++ [(.slice (some ⟨og, 0, none⟩) n n, List.replicate n 0)]) ++ List.replicate n (.slice none 0 0, []) := by
          unfold rowsA rowsF
          rw [List.zip_replicate']
          rfl
        rw [e]; exact hb
      · rw [List.length_replicate]
        refine ⟨by simp, .inr ⟨wg, n, _, rfl, t1, t2, Nat.le_refl _, by unfold maxLen; omega, ?_, ?_⟩⟩
        · rw [madeCells_one]; simp
        · rw [madeCells_one]; simp
    have HA := Lib.hid hAB
    obtain ⟨fin, hfin⟩ : ∃ a, a = (down n).foldl (Ab.round s) ⟨Fn.new n, List.replicate n 0, List.replicate n []⟩ := ⟨_, rfl⟩
    have HFIN := Lib.hid hfin
    clear hI hf o1 o2 t1 t2 hne hAB hfin
    simp only [full, aV, Act.put, List.setIfInBounds_toArray, List.set_cons_zero, List.set_cons_succ]
    have hw1 : wrap64 ((n : Int) - 1) = (n : Int) - 1 := Go.IntWalk.wrap64_in _ (by omega)
    go_wp2_with (fail)
    clear hw1
    go_loopg [7] (n - 1) (fun k zv wr => ∃ (z : Int) (a : Ab) (ws : List Value) (M : Nat), zv = .int .i64 z ∧ z = (k : Int) ∧ k < n ∧ M + k < n ∧ a.ok n M ∧ (down (k + 1)).foldl (Ab.round s) a = fin ∧ Below w.heap.size w wr ∧ AbAt w.heap.size wr F hv ev bv (.slice (some ⟨og, 0, none⟩) n n) (.slice (some ⟨wg, 0, none⟩) n n) ws a)
    case atStart => exact ⟨(n : Int) - 1, _, _, 0, by first | rfl | (rw [Go.IntWalk.wrap64_in _ (by omega)]), by omega, by omega, by omega, Ab.new_ok hpos, by rw [HFIN.out, show n - 1 + 1 = n by omega], HB.out, HA.out⟩
    case round =>
      obtain ⟨z, a, ws, M, rfl, hz, hkn, hMk, haok, hfo, hbr, hab⟩ := hrel
      have HAB := Lib.hid hab; have HBR := Lib.hid hbr; have HAOK := Lib.hid haok; have HFO := Lib.hid hfo; have HMK := Lib.hid hMk
      obtain ⟨hg, eg, bg, hc, ec, bc, rfl, rfl, rfl⟩ := hab.fin.slices haok.f hpos
      have d0 := (hbr.cell (p := ⟨W, 0, none⟩) hWl).trans c0
      have d1 := (hbr.cell (p := ⟨W, 1, none⟩) hWl).trans c1
      have d2 := (hbr.cell (p := ⟨W, 2, none⟩) hWl).trans c2
      clear hab hbr haok hfo hMk
      by_cases hk0 : gk = 0
      · have hz0 : z = 0 := by omega
        subst hz0
        have hafin : a = fin := by
          have := HFO.out
          rw [hk0] at this
          exact this
        clear hz hk0 hkn HFO d0 d1 d2 HMK
        go_wp2_with (fail)
        go_loopw [14] (fun i wx => ∃ (j : Nat) (out' : List Int), 1 ≤ j ∧ j ≤ n ∧ i = .int .i64 j ∧ out' = (((List.range n).drop 1).take (j - 1)).foldl (Ab.last a.f) a.out ∧ out'.length = n ∧ (∀ x ∈ out', 0 ≤ x ∧ x < (n : Int)) ∧ Below w.heap.size w wx ∧ AbAt w.heap.size wx F (.slice (some ⟨hg, 0, none⟩) n hc) (.slice (some ⟨eg, 0, none⟩) n ec) (.slice (some ⟨bg, 0, none⟩) n bc) (.slice (some ⟨og, 0, none⟩) n n) (.slice (some ⟨wg, 0, none⟩) n n) ws ⟨a.f, out', a.waiting⟩) (fun i _ => n - (intOf i).toNat)
        case atStart => exact ⟨1, a.out, Nat.le_refl _, hpos, rfl, rfl, HAOK.out.ol, HAOK.out.oin, HBR.out, HAB.out⟩
        case round =>
          obtain ⟨j, out', hj1, hjn, rfl, hout, hol, hoin, hbx, hax⟩ := hrel
          by_cases hjl : j < n
          · have hji : (j : Int) < (n : Int) := by omega
            have horg := hoin _ (gi_mem (v := j) (by rw [hol]; exact hjl))
            obtain ⟨o, ho⟩ : ∃ o : Nat, gi out' j = o := ⟨(gi out' j).toNat, by omega⟩
            have hon : o < n := by omega
            have hoi : (o : Int) < (n : Int) := by omega
            obtain ⟨y, hy⟩ : ∃ y, gi out' o = y := ⟨_, rfl⟩
            obtain ⟨e, he⟩ : ∃ e, gi a.f.entry j = e := ⟨_, rfl⟩
            obtain ⟨k1, k2, k3, k4⟩ := own_at (hax.fin.bag.row 3 _ _ rfl) (gi_get (l := out') (v := j) (by rw [hol]; exact hjl))
            obtain ⟨k5, _, _, _⟩ := own_at (hax.fin.bag.row 3 _ _ rfl) (gi_get (l := out') (v := o) (by rw [hol]; exact hon))
            have k6 := (hax.fin.cells HAOK.out.f hjl).2.1
            rw [ho] at k1; rw [hy] at k5; rw [he] at k6
            obtain ⟨⟨_, b1, _⟩, _, _⟩ := wbox hax.fin.box
            have HNEXT := Lib.hid (show (((List.range n).drop 1).take (j + 1 - 1)).foldl (Ab.last a.f) a.out = Ab.last a.f out' j from by
              have h1 : ((List.range n).drop 1)[j - 1]? = some j := by
                rw [List.getElem?_drop, List.getElem?_range (by omega)]
                congr 1; omega
              have h2 := foldl_take (Ab.last a.f) a.out h1
              rw [show j - 1 + 1 = j + 1 - 1 by omega] at h2
              rw [h2, ← hout])
            have hyr := hoin _ (gi_mem (v := o) (by rw [hol]; exact hon))
            rw [hy] at hyr
            have HOL := Lib.hid hol; have HOIN := Lib.hid hoin; have HBX := Lib.hid hbx; have HAX := Lib.hid hax; have HYR := Lib.hid hyr
            have HLAST := Lib.hid (show Ab.last a.f out' j = if (o : Int) ≠ e then out'.set j y else out' from by
              unfold Ab.last
              rw [ho, he, hy])
            clear hout hol hoin hbx hax horg ho hy he hyr
            by_cases hne : (o : Int) = e
            · have qe : ((o : Int) == e) = true := by simpa using hne
              rw [if_neg (by simpa using hne)] at HLAST
              subst hne
              go_upto_region 26 with (fail)
              go_quiet (fail)
              have HA9 := Lib.hid (HAX.out.below (below_drewN (Below.refl wr.heap.size wr) nq))
              have HB9 := Lib.hid (below_drewN HBX.out nq)
              clear b1 k1 k2 k3 k4 k5 k6 HAX HBX
              generalize wr.drewN nq = w9 at *
              go_wp2_with (fail)
              go_roundw
              case rel => exact ⟨j + 1, out', by omega, by omega, by go_num, by rw [HNEXT.out, HLAST.out], HOL.out, HOIN.out, HB9.out, HA9.out⟩
              case measure => simp [intOf]; omega
            · have qe : ((o : Int) == e) = false := by simpa using hne
              rw [if_pos (by simpa using hne)] at HLAST
              go_upto_region 26 with (fail)
              go_quiet (fail)
              have HA9 := Lib.hid (HAX.out.below (below_drewN (Below.refl wr.heap.size wr) nq))
              have HB9 := Lib.hid (below_drewN HBX.out nq)
              have c1' : (wr.drewN nq).cell? ⟨og, j, none⟩ = some (.int .i64 o) := k1
              have c2' : (wr.drewN nq).cell? ⟨og, o, none⟩ = some (.int .i64 y) := k5
              have c3' : (wr.drewN nq).frozen? ⟨og, j, none⟩ = false := k2
              have c4' : og < (wr.drewN nq).heap.size := k4
              clear b1 k1 k2 k4 k5 k6 HAX HBX
              generalize wr.drewN nq = w9 at *
              go_wp2_with (fail)
              go_roundw
              case rel =>
                exact ⟨j + 1, out'.set j y, by omega, by omega, by go_num, by rw [HNEXT.out, HLAST.out], by rw [List.length_set]; exact HOL.out, mem_set HOIN.out j HYR.out, below_put HB9.out k3 _ _, HA9.out.putout HOL.out hjl y⟩
              case measure => simp [intOf]; omega
          · obtain rfl : j = n := by omega
            have hown := hax.fin.bag.row 3 _ _ rfl
            have hE : out' = aboveL s := by
              rw [hout]
              unfold aboveL
              dsimp only
              rw [HPN.out, ← HFIN.out, hafin, List.take_of_length_le (by simp)]
            have HOWN := Lib.hid hown; have HOL := Lib.hid hol; have HBX := Lib.hid hbx; have HE := Lib.hid hE
            clear hown hout hol hoin hbx hax hE
            go_wp2_with (fail)
            go_ret
            refine ⟨_, rfl, HBX.out, ?_⟩
            have h1 := HOWN.out
            rw [HOL.out, HE.out] at h1
            exact h1
      · obtain ⟨k', hk'⟩ : ∃ k', gk = k' + 1 := ⟨gk - 1, by omega⟩
        subst hk'
        obtain ⟨v, hv⟩ : ∃ v, v = k' + 1 := ⟨_, rfl⟩
        obtain rfl : z = (v : Int) := by omega
        have hvn : v < n := by omega
        have hvi : (v : Int) < (n : Int) := by omega
        have hv0 : (0 : Int) < (v : Int) := by omega
        obtain ⟨row, hrow⟩ : ∃ r, s.ins[v]? = some r := ⟨_, List.getElem?_eq_getElem (by rw [HOK.out.2, HPN.out]; exact hvn)⟩
        obtain ⟨hu, hhu⟩ : ∃ u, hs[v]? = some u := ⟨_, List.getElem?_eq_getElem (by rw [HIL.out]; exact hvn)⟩
        have hbag := HW.out.bag.row _ _ _ (HW.out.inrow hhu hrow)
        have hhd := HW.out.hdr
        rw [HIL.out] at hhd
        have hic := own_cell hhd hhu
        have higl := (hhd.lt ig rfl).2
        have hic2 := (HBR.out.cell (p := ⟨ig, v, none⟩) higl).trans hic
        obtain ⟨ra, rc, rfl⟩ : ∃ a c, hu = .slice a row.length c := by
          rcases own_slice hbag with ⟨h0, h1⟩ | ⟨g, c, h0, _⟩
          · exact ⟨none, 0, by rw [h0, h1]⟩
          · exact ⟨_, _, h0⟩
        have hrl := HROWS.out row (List.mem_of_getElem? hrow)
        have HRIN := Lib.hid (fun x hx => HOK2.out.ins row (List.mem_of_getElem? hrow) x hx)
        have HBAG := Lib.hid hbag
        have HVK := Lib.hid hv
        have HROW := Lib.hid hrow
        clear hbag hhd hic hz hk0 hv hrow hhu
        go_wp2_with (fail)
        clear hv0
        rename 0 < v => hpv
        clear hpv
        go_loopw [40] (fun i wx => ∃ j : Nat, j ≤ row.length ∧ i = .int .i64 j ∧ Below w.heap.size w wx ∧ AbAt w.heap.size wx F (.slice (some ⟨hg, 0, none⟩) n hc) (.slice (some ⟨eg, 0, none⟩) n ec) (.slice (some ⟨bg, 0, none⟩) n bc) (.slice (some ⟨og, 0, none⟩) n n) (.slice (some ⟨wg, 0, none⟩) n n) ws ((row.take j).foldl (Ab.came v) a)) (fun i _ => row.length - (intOf i).toNat)
        case atStart => exact ⟨0, Nat.zero_le _, rfl, HBR.out, HAB.out⟩
        case round =>
          clear d0 d1 d2 hic2
          obtain ⟨j, hj, rfl, hbx, hax⟩ := hrel
          have HBX := Lib.hid hbx; have HAX := Lib.hid hax
          have HJOK := Lib.hid (Ab.ok.folds (n := n) (M := M) (step := Ab.came v) (fun a x ha hx => ha.came hvn hx) (row.take j) a HAOK.out (fun x hx => by have := HRIN.out x (List.mem_of_mem_take hx); rw [HPN.out] at this; exact this))
          by_cases hjl : j < row.length
          · obtain ⟨rg, hra, _⟩ := own_head HBAG.out (by omega)
            subst hra
            obtain ⟨sx, hsx⟩ : ∃ x, row[j]? = some x := ⟨_, List.getElem?_eq_getElem hjl⟩
            have hsr := HRIN.out sx (List.mem_of_getElem? hsx)
            rw [HPN.out] at hsr
            obtain ⟨sc, rfl⟩ : ∃ sc : Nat, sx = sc := ⟨sx.toNat, by omega⟩
            have hscn : sc < n := by omega
            obtain ⟨k1, _, _, hrgl⟩ := own_at HBAG.out hsx
            have k2 := (hbx.cell (p := ⟨rg, j, none⟩) hrgl).trans k1
            have hji : (j : Int) < (row.length : Int) := by omega
            have HFT := Lib.hid (foldl_take (Ab.came v) a hsx)
            generalize (row.take j).foldl (Ab.came v) a = aj at *
            have hl3 := HJOK.out.f.least hscn
            obtain ⟨r1, hr1⟩ : ∃ r : Nat, (aj.f.least sc).1 = r := ⟨((aj.f.least sc).1).toNat, by omega⟩
            have hr1n : r1 < n := by omega
            obtain ⟨e0, he0⟩ : ∃ e, gi aj.f.entry v = e := ⟨_, rfl⟩
            obtain ⟨e1, he1⟩ : ∃ e, gi aj.f.entry r1 = e := ⟨_, rfl⟩
            have HR1 := Lib.hid hr1; have HE0 := Lib.hid he0; have HE1 := Lib.hid he1
            have hr1i : (r1 : Int) < (n : Int) := by omega
            clear hsx hsr k1 hl3 hr1 he0 he1 hax hbx
            go_wp2_with (fail)
            clear k2
            refine wp_region_by (by kernel_rfl) (cV F eg n ec v sc r1 e0 e1) (CI w.heap.size w F (.slice (some ⟨hg, 0, none⟩) n hc) (.slice (some ⟨eg, 0, none⟩) n ec) (.slice (some ⟨bg, 0, none⟩) n bc) (.slice (some ⟨og, 0, none⟩) n n) (.slice (some ⟨wg, 0, none⟩) n n) ws v aj sc) 0 (fun _ => rfl) (by kernel_rfl) ?k0 ?ksteps ?kdone
            case k0 => exact ⟨⟨HBX.out.os, HBX.out.tape, HBX.out.output, HBX.out.size, HBX.out.block⟩, HAX.out.below ⟨rfl, rfl, rfl, Nat.le_refl _, fun _ _ => rfl⟩⟩
            case kdone =>
              intro g w' hI
              have HA2 := Lib.hid hI.at'; have HB2 := Lib.hid hI.low
              clear hI
              simp only [full, cV, Act.put, List.setIfInBounds_toArray, List.set_cons_zero, List.set_cons_succ]
              go_wp2_with (fail)
              go_roundw
              case rel => exact ⟨j + 1, by omega, by go_num, HB2.out, by rw [HFT.out]; exact HA2.out⟩
              case measure => simp [intOf]; omega
            case ksteps =>
              refine (Steps.cons (k' := 1) ?s0 rfl (Steps.cons (k' := 2) ?s1 rfl (Steps.cons (k' := 3) ?s2 rfl (Steps.cons (k' := 4) ?s3 rfl (Steps.cons (k' := 5) ?s4 rfl (Steps.cons (k' := 6) ?s5 rfl (Steps.cons (k' := 7) ?s6 rfl (Steps.cons (k' := 8) ?s7 rfl (Steps.cons (k' := 9) ?s8 rfl (Steps.cons (k' := 10) ?s9 rfl (Steps.cons (k' := 11) ?s10 rfl (Steps.cons (k' := 12) ?s11 rfl (Steps.cons (k' := 13) ?s12 rfl (Steps.cons (k' := 14) ?s13 rfl (Steps.cons (k' := 15) ?s14 rfl (Steps.cons (k' := 16) ?s15 rfl (Steps.cons (k' := 17) ?s16 rfl (Steps.cons (k' := 18) ?s17 rfl (Steps.cons (k' := 19) ?s18 rfl (Steps.cons (k' := 20) ?s19 rfl (Steps.cons (k' := 21) ?s20 rfl (Steps.cons (k' := 22) ?s21 rfl (Steps.cons (k' := 23) ?s22 rfl (Steps.cons (k' := 24) ?s23 rfl Steps.nil))))))))))))))))))))))))
              case s0 =>
                intro L g w' hL hd hcl hI K hK
                simp only [full, cV, Act.put, List.setIfInBounds_toArray, List.set_cons_zero, List.set_cons_succ] at hK ⊢
                have hbx := hI.at'.fin.box
                obtain ⟨⟨_, b1, _⟩, _, hl⟩ := wbox hbx
                clear hbx
                have HL := Lib.hid hL; have HD := Lib.hid hd; have HC := Lib.hid hcl; have HJ := Lib.hid hI; have HK := Lib.hid hK
                clear hL hd hcl hI hK
                go_simp
                exact HK.out _ _ g rfl (fun _ _ => by first | rfl | trivial) (HJ.out.skip (by decide))
              case s1 =>
                intro L g w' hL hd hcl hI K hK
                simp only [full, cV, Act.put, List.setIfInBounds_toArray, List.set_cons_zero, List.set_cons_succ] at hK ⊢
                have hbx := hI.at'.fin.box
                obtain ⟨⟨_, b1, _⟩, _, hl⟩ := wbox hbx
                clear hbx
                have HL := Lib.hid hL; have HD := Lib.hid hd; have HC := Lib.hid hcl; have HJ := Lib.hid hI; have HK := Lib.hid hK
                clear hL hd hcl hI hK
                go_simp
                exact HK.out _ _ g rfl (fun _ _ => by first | rfl | trivial) (HJ.out.skip (by decide))
              case s2 =>
                intro L g w' hL hd hcl hI K hK
                simp only [full, cV, Act.put, List.setIfInBounds_toArray, List.set_cons_zero, List.set_cons_succ] at hK ⊢
                have hbx := hI.at'.fin.box
                obtain ⟨⟨_, b1, _⟩, _, hl⟩ := wbox hbx
                clear hbx
                have HL := Lib.hid hL; have HD := Lib.hid hd; have HC := Lib.hid hcl; have HJ := Lib.hid hI; have HK := Lib.hid hK
                clear hL hd hcl hI hK
                go_simp
                exact HK.out _ _ g rfl (fun _ _ => by first | rfl | trivial) (HJ.out.skip (by decide))
              case s3 =>
                intro L g w' hL hd hcl hI K hK
                simp only [full, cV, Act.put, List.setIfInBounds_toArray, List.set_cons_zero, List.set_cons_succ] at hK ⊢
                have hbx := hI.at'.fin.box
                obtain ⟨⟨_, b1, _⟩, _, hl⟩ := wbox hbx
                clear hbx
                have HL := Lib.hid hL; have HD := Lib.hid hd; have HC := Lib.hid hcl; have HJ := Lib.hid hI; have HK := Lib.hid hK
                clear hL hd hcl hI hK
                go_simp
                exact HK.out _ _ g rfl (fun _ _ => by first | rfl | trivial) (HJ.out.skip (by decide))
              case s4 =>
                intro L g w' hL hd hcl hI K hK
                simp only [full, cV, Act.put, List.setIfInBounds_toArray, List.set_cons_zero, List.set_cons_succ] at hK ⊢
                have hbx := hI.at'.fin.box
                obtain ⟨⟨_, b1, _⟩, _, hl⟩ := wbox hbx
                clear hbx
                have HL := Lib.hid hL; have HD := Lib.hid hd; have HC := Lib.hid hcl; have HJ := Lib.hid hI; have HK := Lib.hid hK
                clear hL hd hcl hI hK
                go_simp
                exact HK.out _ _ g rfl (fun _ _ => by first | rfl | trivial) (HJ.out.skip (by decide))
              case s5 =>
                intro L g w' hL hd hcl hI K hK
                simp only [full, cV, Act.put, List.setIfInBounds_toArray, List.set_cons_zero, List.set_cons_succ] at hK ⊢
                have hbx := hI.at'.fin.box
                obtain ⟨⟨_, b1, _⟩, _, hl⟩ := wbox hbx
                clear hbx
                have HL := Lib.hid hL; have HD := Lib.hid hd; have HC := Lib.hid hcl; have HJ := Lib.hid hI; have HK := Lib.hid hK
                clear hL hd hcl hI hK
                go_simp
                exact HK.out _ _ g rfl (fun _ _ => by first | rfl | trivial) (HJ.out.skip (by decide))
              case s6 =>
                intro L g w' hL hd hcl hI K hK
                simp only [full, cV, Act.put, List.setIfInBounds_toArray, List.set_cons_zero, List.set_cons_succ] at hK ⊢
                have hbx := hI.at'.fin.box
                obtain ⟨⟨_, b1, _⟩, _, hl⟩ := wbox hbx
                clear hbx
                have HL := Lib.hid hL; have HD := Lib.hid hd; have HC := Lib.hid hcl; have HJ := Lib.hid hI; have HK := Lib.hid hK
                clear hL hd hcl hI hK
                go_simp
                exact HK.out _ _ g rfl (fun _ _ => by first | rfl | trivial) (HJ.out.skip (by decide))
              case s7 =>
                intro L g w' hL hd hcl hI K hK
                simp only [full, cV, Act.put, List.setIfInBounds_toArray, List.set_cons_zero, List.set_cons_succ] at hK ⊢
                have hbx := hI.at'.fin.box
                obtain ⟨⟨_, b1, _⟩, _, hl⟩ := wbox hbx
                clear hbx
                have HL := Lib.hid hL; have HD := Lib.hid hd; have HC := Lib.hid hcl; have HJ := Lib.hid hI; have HK := Lib.hid hK
                clear hL hd hcl hI hK
                go_simp
                exact HK.out _ _ g rfl (fun _ _ => by first | rfl | trivial) (HJ.out.skip (by decide))
              case s8 =>
                intro L g w' hL hd hcl hI K hK
                simp only [full, cV, Act.put, List.setIfInBounds_toArray, List.set_cons_zero, List.set_cons_succ] at hK ⊢
                have hbx := hI.at'.fin.box
                obtain ⟨⟨_, b1, _⟩, _, hl⟩ := wbox hbx
                clear hbx
                have HL := Lib.hid hL; have HD := Lib.hid hd; have HC := Lib.hid hcl; have HJ := Lib.hid hI; have HK := Lib.hid hK
                clear hL hd hcl hI hK
                go_simp
                exact HK.out _ _ g rfl (fun _ _ => by first | rfl | trivial) (HJ.out.skip (by decide))
              case s9 =>
                intro L g w' hL hd hcl hI K hK
                simp only [full, cV, Act.put, List.setIfInBounds_toArray, List.set_cons_zero, List.set_cons_succ] at hK ⊢
                have hbx := hI.at'.fin.box
                obtain ⟨⟨_, b1, _⟩, _, hl⟩ := wbox hbx
                clear hbx
                have HL := Lib.hid hL; have HD := Lib.hid hd; have HC := Lib.hid hcl; have HJ := Lib.hid hI; have HK := Lib.hid hK
                clear hL hd hcl hI hK
                go_simp
                exact HK.out _ _ g rfl (fun _ _ => by first | rfl | trivial) (HJ.out.skip (by decide))
              case s10 =>
                intro L g w' hL hd hcl hI K hK
                simp only [full, cV, Act.put, List.setIfInBounds_toArray, List.set_cons_zero, List.set_cons_succ] at hK ⊢
                have hbx := hI.at'.fin.box
                obtain ⟨⟨_, b1, _⟩, _, hl⟩ := wbox hbx
                clear hbx
                have HL := Lib.hid hL; have HD := Lib.hid hd; have HC := Lib.hid hcl; have HJ := Lib.hid hI; have HK := Lib.hid hK
                clear hL hd hcl hI hK
                go_simp
                exact HK.out _ _ g rfl (fun _ _ => by first | rfl | trivial) (HJ.out.skip (by decide))
              case s11 =>
                intro L g w' hL hd hcl hI K hK
                simp only [full, cV, Act.put, List.setIfInBounds_toArray, List.set_cons_zero, List.set_cons_succ] at hK ⊢
                have hbx := hI.at'.fin.box
                obtain ⟨⟨_, b1, _⟩, _, hl⟩ := wbox hbx
                clear hbx
                have l21 : L 21 = false := hcl.not 21 11 (by kernel_rfl) hL
                have l23 : L 23 = false := hcl.not 23 21 (by kernel_rfl) l21
                have z1 := hI.ent l23 (j := v) (by rw [HJOK.out.f.el]; exact hvn)
                rw [HE0.out] at z1
                have HL := Lib.hid hL; have HD := Lib.hid hd; have HC := Lib.hid hcl; have HJ := Lib.hid hI; have HK := Lib.hid hK
                clear hL hd hcl hI hK
                go_simp
                exact HK.out _ _ g rfl (fun _ _ => by first | rfl | trivial) (HJ.out.skip (by decide))
              case s12 =>
                intro L g w' hL hd hcl hI K hK
                simp only [full, cV, Act.put, List.setIfInBounds_toArray, List.set_cons_zero, List.set_cons_succ] at hK ⊢
                have hbx := hI.at'.fin.box
                obtain ⟨⟨_, b1, _⟩, _, hl⟩ := wbox hbx
                clear hbx
                have HL := Lib.hid hL; have HD := Lib.hid hd; have HC := Lib.hid hcl; have HJ := Lib.hid hI; have HK := Lib.hid hK
                clear hL hd hcl hI hK
                go_simp
                exact HK.out _ _ g rfl (fun _ _ => by first | rfl | trivial) (HJ.out.skip (by decide))
              case s13 =>
                intro L g w' hL hd hcl hI K hK
                simp only [full, cV, Act.put, List.setIfInBounds_toArray, List.set_cons_zero, List.set_cons_succ] at hK ⊢
                have hbx := hI.at'.fin.box
                obtain ⟨⟨_, b1, _⟩, _, hl⟩ := wbox hbx
                clear hbx
                have HL := Lib.hid hL; have HD := Lib.hid hd; have HC := Lib.hid hcl; have HJ := Lib.hid hI; have HK := Lib.hid hK
                clear hL hd hcl hI hK
                go_simp
                exact HK.out _ _ g rfl (fun _ _ => by first | rfl | trivial) (HJ.out.skip (by decide))
              case s14 =>
                intro L g w' hL hd hcl hI K hK
                simp only [full, cV, Act.put, List.setIfInBounds_toArray, List.set_cons_zero, List.set_cons_succ] at hK ⊢
                have hbx := hI.at'.fin.box
                obtain ⟨⟨_, b1, _⟩, _, hl⟩ := wbox hbx
                clear hbx
                have HL := Lib.hid hL; have HD := Lib.hid hd; have HC := Lib.hid hcl; have HJ := Lib.hid hI; have HK := Lib.hid hK
                clear hL hd hcl hI hK
                go_simp
                exact HK.out _ _ g rfl (fun _ _ => by first | rfl | trivial) (HJ.out.skip (by decide))
              case s15 =>
                intro L g w' hL hd hcl hI K hK
                simp only [full, cV, Act.put, List.setIfInBounds_toArray, List.set_cons_zero, List.set_cons_succ] at hK ⊢
                have hbx := hI.at'.fin.box
                obtain ⟨⟨_, b1, _⟩, _, hl⟩ := wbox hbx
                clear hbx
                have HL := Lib.hid hL; have HD := Lib.hid hd; have HC := Lib.hid hcl; have HJ := Lib.hid hI; have HK := Lib.hid hK
                clear hL hd hcl hI hK
                go_simp
                exact HK.out _ _ g rfl (fun _ _ => by first | rfl | trivial) (HJ.out.skip (by decide))
              case s16 =>
                intro L g w' hL hd hcl hI K hK
                simp only [full, cV, Act.put, List.setIfInBounds_toArray, List.set_cons_zero, List.set_cons_succ] at hK ⊢
                have hbx := hI.at'.fin.box
                obtain ⟨⟨_, b1, _⟩, _, hl⟩ := wbox hbx
                clear hbx
                have HL := Lib.hid hL; have HD := Lib.hid hd; have HC := Lib.hid hcl; have HJ := Lib.hid hI; have HK := Lib.hid hK
                clear hL hd hcl hI hK
                go_simp
                exact HK.out _ _ g rfl (fun _ _ => by first | rfl | trivial) (HJ.out.skip (by decide))
              case s17 =>
                intro L g w' hL hd hcl hI K hK
                simp only [full, cV, Act.put, List.setIfInBounds_toArray, List.set_cons_zero, List.set_cons_succ] at hK ⊢
                have hbx := hI.at'.fin.box
                obtain ⟨⟨_, b1, _⟩, _, hl⟩ := wbox hbx
                clear hbx
                have HL := Lib.hid hL; have HD := Lib.hid hd; have HC := Lib.hid hcl; have HJ := Lib.hid hI; have HK := Lib.hid hK
                clear hL hd hcl hI hK
                go_simp
                exact HK.out _ _ g rfl (fun _ _ => by first | rfl | trivial) (HJ.out.skip (by decide))
              case s18 =>
                intro L g w' hL hd hcl hI K hK
                simp only [full, cV, Act.put, List.setIfInBounds_toArray, List.set_cons_zero, List.set_cons_succ] at hK ⊢
                have hbx := hI.at'.fin.box
                obtain ⟨⟨_, b1, _⟩, _, hl⟩ := wbox hbx
                clear hbx
                have l19 : L 19 = false := hcl.not 19 18 (by kernel_rfl) hL
                have l20 : L 20 = false := hcl.not 20 19 (by kernel_rfl) l19
                have l21 : L 21 = false := hcl.not 21 20 (by kernel_rfl) l20
                have l23 : L 23 = false := hcl.not 23 21 (by kernel_rfl) l21
                have ha := hI.at'
                rw [hL, l23] at ha
                have HHA := Lib.hid (show AbAt w.heap.size w' F (.slice (some ⟨hg, 0, none⟩) n hc) (.slice (some ⟨eg, 0, none⟩) n ec) (.slice (some ⟨bg, 0, none⟩) n bc) (.slice (some ⟨og, 0, none⟩) n n) (.slice (some ⟨wg, 0, none⟩) n n) ws aj from ha)
                clear ha
                have HL := Lib.hid hL; have HD := Lib.hid hd; have HC := Lib.hid hcl; have HJ := Lib.hid hI; have HK := Lib.hid hK
                clear hL hd hcl hI hK
                go_simp
                refine (least_any HHA.out.fin HJOK.out.f hn sc hscn).mono ?_
                rintro e w2 ⟨rfl, hb, hkf, rs', hf, hr⟩
                rw [HR1.out]
                refine HK.out _ _ g rfl (fun _ _ => by first | rfl | trivial) ⟨HJ.out.low.trans hb, ?_⟩
                have e23 : setL L 18 23 = false := by rw [setL_ne (by decide)]; exact l23
                rw [setL_eq, e23]
                exact HHA.out.least hkf hf hr
              case s19 =>
                intro L g w' hL hd hcl hI K hK
                simp only [full, cV, Act.put, List.setIfInBounds_toArray, List.set_cons_zero, List.set_cons_succ] at hK ⊢
                have hbx := hI.at'.fin.box
                obtain ⟨⟨_, b1, _⟩, _, hl⟩ := wbox hbx
                clear hbx
                have HL := Lib.hid hL; have HD := Lib.hid hd; have HC := Lib.hid hcl; have HJ := Lib.hid hI; have HK := Lib.hid hK
                clear hL hd hcl hI hK
                go_simp
                exact HK.out _ _ g rfl (fun _ _ => by first | rfl | trivial) (HJ.out.skip (by decide))
              case s20 =>
                intro L g w' hL hd hcl hI K hK
                simp only [full, cV, Act.put, List.setIfInBounds_toArray, List.set_cons_zero, List.set_cons_succ] at hK ⊢
                have hbx := hI.at'.fin.box
                obtain ⟨⟨_, b1, _⟩, _, hl⟩ := wbox hbx
                clear hbx
                have l21 : L 21 = false := hcl.not 21 20 (by kernel_rfl) hL
                have l23 : L 23 = false := hcl.not 23 21 (by kernel_rfl) l21
                have z1 := hI.ent l23 (j := r1) (by rw [HJOK.out.f.el]; exact hr1n)
                rw [HE1.out] at z1
                have HL := Lib.hid hL; have HD := Lib.hid hd; have HC := Lib.hid hcl; have HJ := Lib.hid hI; have HK := Lib.hid hK
                clear hL hd hcl hI hK
                go_simp
                exact HK.out _ _ g rfl (fun _ _ => by first | rfl | trivial) (HJ.out.skip (by decide))
              case s21 =>
                intro L g w' hL hd hcl hI K hK
                simp only [full, cV, Act.put, List.setIfInBounds_toArray, List.set_cons_zero, List.set_cons_succ] at hK ⊢
                have hbx := hI.at'.fin.box
                obtain ⟨⟨_, b1, _⟩, _, hl⟩ := wbox hbx
                clear hbx
                have HL := Lib.hid hL; have HD := Lib.hid hd; have HC := Lib.hid hcl; have HJ := Lib.hid hI; have HK := Lib.hid hK
                clear hL hd hcl hI hK
                go_simp
                have hmin : (if e1 < e0 then e1 else e0) = min e0 e1 := by split <;> omega
                rw [hmin]
                exact HK.out _ _ g rfl (fun _ _ => by first | rfl | trivial) (HJ.out.skip (by decide))
              case s22 =>
                intro L g w' hL hd hcl hI K hK
                simp only [full, cV, Act.put, List.setIfInBounds_toArray, List.set_cons_zero, List.set_cons_succ] at hK ⊢
                have hbx := hI.at'.fin.box
                obtain ⟨⟨_, b1, _⟩, _, hl⟩ := wbox hbx
                clear hbx
                have HL := Lib.hid hL; have HD := Lib.hid hd; have HC := Lib.hid hcl; have HJ := Lib.hid hI; have HK := Lib.hid hK
                clear hL hd hcl hI hK
                go_simp
                exact HK.out _ _ g rfl (fun _ _ => by first | rfl | trivial) (HJ.out.skip (by decide))
              case s23 =>
                intro L g w' hL hd hcl hI K hK
                simp only [full, cV, Act.put, List.setIfInBounds_toArray, List.set_cons_zero, List.set_cons_succ] at hK ⊢
                have hbx := hI.at'.fin.box
                obtain ⟨⟨_, b1, _⟩, _, hl⟩ := wbox hbx
                clear hbx
                have l21 : L 21 = true := dep_of hd 21 (by kernel_rfl)
                have l20 : L 20 = true := hcl.dep 21 20 (by kernel_rfl) l21
                have l19 : L 19 = true := hcl.dep 20 19 (by kernel_rfl) l20
                have l18 : L 18 = true := hcl.dep 19 18 (by kernel_rfl) l19
                have z1 := hI.ent hL (j := v) (by rw [HJOK.out.f.el]; exact hvn)
                have ha := hI.at'
                rw [hL, l18] at ha
                have z2 := (ha.fin.froz v).1.2.1
                have z3 := (ha.fin.froz v).2.1.2.1
                have z4 := (ha.fin.froz v).2.2.2.1
                have HHA := Lib.hid ha
                clear ha
                have HL := Lib.hid hL; have HD := Lib.hid hd; have HC := Lib.hid hcl; have HJ := Lib.hid hI; have HK := Lib.hid hK
                clear hL hd hcl hI hK
                go_simp
                refine HK.out _ _ g rfl (fun _ _ => by first | rfl | trivial) ⟨below_put HJ.out.low z3 _ _, ?_⟩
                have e18 : setL L 23 18 = true := by rw [setL_ne (by decide)]; exact l18
                rw [setL_eq, e18]
                have h1 := HHA.out.putentry (j := v) (by rw [stC_entry]; exact HJOK.out.f.el) hvn (min e0 e1)
                have h2 : stC v aj (sc : Int) true true = ⟨⟨(stC v aj (sc : Int) true false).f.hangs, (stC v aj (sc : Int) true false).f.entry.set v (min e0 e1), (stC v aj (sc : Int) true false).f.best⟩, (stC v aj (sc : Int) true false).out, (stC v aj (sc : Int) true false).waiting⟩ := by
                  unfold stC Ab.came
                  simp only [if_true, Bool.false_eq_true, if_false]
                  rw [HR1.out, least_entry, HE0.out, HE1.out, Int.toNat_natCast]
                rw [h2]
                exact h1
          · obtain rfl : j = row.length := by omega
            rw [List.take_length] at HAX HJOK
            clear hax hbx
            obtain ⟨a1, ha1⟩ : ∃ x, x = row.foldl (Ab.came v) a := ⟨_, rfl⟩
            rw [← ha1] at HAX HJOK
            have HA1 := Lib.hid ha1
            clear ha1
            have hev := HJOK.out.f.ein _ (gi_mem (v := v) (by rw [HJOK.out.f.el]; exact hvn))
            obtain ⟨en, hen⟩ : ∃ e : Nat, gi a1.f.entry v = e := ⟨(gi a1.f.entry v).toNat, by omega⟩
            have henn : en < n := by omega
            have heni : (en : Int) < (n : Int) := by omega
            have hwl : ws.length = n := by rw [HAX.out.len]; exact HJOK.out.wl
            obtain ⟨h0, hh0⟩ : ∃ u, ws[en]? = some u := ⟨_, List.getElem?_eq_getElem (by rw [hwl]; exact henn)⟩
            obtain ⟨xs, hxs⟩ : ∃ u, a1.waiting[en]? = some u := ⟨_, List.getElem?_eq_getElem (by rw [HJOK.out.wl]; exact henn)⟩
            have hin := HAX.out.inrow hh0 hxs
            have hrv := HAX.out.fin.bag.row _ _ _ hin
            obtain ⟨ha, hcap, rfl⟩ : ∃ a cap, h0 = .slice a xs.length cap := by
              rcases own_slice hrv with ⟨q0, q1⟩ | ⟨g, cap, q0, _⟩
              · exact ⟨none, 0, by rw [q0, q1]⟩
              · exact ⟨_, _, q0⟩
            have hhd := HAX.out.hdr
            rw [hwl] at hhd
            have ch := own_cell hhd hh0
            have nF : some F ≠ (Value.slice ha xs.length hcap).ownBlock := fun e => HAX.out.fin.bag.ne_box HAX.out.fin.box (by decide) hin e.symm rfl
            have nE : some eg ≠ (Value.slice ha xs.length hcap).ownBlock := fun e => HAX.out.fin.bag.apart 1 (4 + en) _ _ rfl hin (by omega) eg rfl e.symm
            have nG : some wg ≠ (Value.slice ha xs.length hcap).ownBlock := fun e => own_apart hhd hrv (by decide) (q := wg) rfl e.symm
            have hfg : wr.frozen? ⟨wg, en, none⟩ = false := by
              obtain ⟨cs, hcs⟩ := own_type hhd (q := wg) rfl
              exact Lib.frozen_of_heap hcs en
            obtain ⟨hwB, hwgl⟩ := hhd.lt wg rfl
            have hxl : xs.length ≤ 1000000 := Nat.le_trans (HJOK.out.wM _ (List.mem_of_getElem? hxs)) (by have := HMK.out; omega)
            have ce := (HAX.out.fin.cells HJOK.out.f hvn).2.1
            rw [hen] at ce
            obtain ⟨⟨_, b1, _⟩, _, hFl⟩ := wbox HAX.out.fin.box
            have hegl := (HAX.out.fin.froz v).2.2.2.1
            have hBw : w.heap.size ≤ wr.heap.size := HBX.out.size
            have NF := Lib.hid nF; have NE := Lib.hid nE; have NG := Lib.hid nG
            have HRV := Lib.hid hrv; have HH0 := Lib.hid hh0; have HXS := Lib.hid hxs; have HEN := Lib.hid hen; have HWL := Lib.hid hwl
            clear nF nE nG hrv hh0 hxs hin hen hwl hhd hev
            go_wp2_with (fail)
            refine wp_region_by (by kernel_rfl) (dV F eg n ec v en wg xs.length (.slice ha xs.length hcap)) (GI w.heap.size wr (.slice ha xs.length hcap) xs (v : Int) wg en) (0, 0, 0) (fun _ => rfl) (by kernel_rfl) ?q0 ?qsteps ?qdone
            case q0 => exact ⟨fun _ => grown_of_below _ ⟨rfl, rfl, rfl, Nat.le_refl _, fun _ _ => rfl⟩, fun _ => ⟨rfl, rfl, rfl, Nat.le_refl _, fun _ _ => rfl⟩, fun a => by simp at a, fun a => by simp at a, fun a => by simp at a⟩
            case qdone =>
              intro g w' hI
              obtain ⟨w3, hg3, hown, hat, rfl⟩ := hI.fin rfl
              have HA2 := Lib.hid (HAX.out.appwait HWL.out HH0.out HXS.out (v : Int) hown hg3 hat)
              have HB2 := Lib.hid (below_put (HBX.out.grown hg3 hBw (fun k hk => (HRV.out.lt k hk).1)) hwB en (.slice (some ⟨g.2.1, 0, none⟩) (xs.length + 1) g.2.2))
              obtain ⟨gb, g2, g3⟩ := g
              clear hI hown hg3 hat NF NE NG HRV ch hfg ce b1 hwgl hegl hFl HAX HBX
              simp only [full, dV, Act.put, List.setIfInBounds_toArray, List.set_cons_zero, List.set_cons_succ]
              generalize w3.setCell ⟨wg, en, none⟩ (.slice (some ⟨g2, 0, none⟩) (xs.length + 1) g3) = w5 at *
              obtain ⟨ws2, hws2⟩ : ∃ x, x = ws.set en (.slice (some ⟨g2, 0, none⟩) (xs.length + 1) g3) := ⟨_, rfl⟩
              have hgr : gr a1.waiting (en : Int) = xs := by unfold gr; rw [Int.toNat_natCast, List.getD_eq_getElem?_getD, HXS.out]; rfl
              obtain ⟨wt, hwt⟩ : ∃ x, x = a1.waiting.set en (xs ++ [(v : Int)]) := ⟨_, rfl⟩
              rw [← hws2, ← hwt] at HA2
              have HW2 := Lib.hid (show ws2.length = n from by rw [hws2, List.length_set]; exact HWL.out)
              have HOK2a := Lib.hid (show Ab.ok ⟨a1.f, a1.out, wt⟩ n (M + 1) from by have := HJOK.out.lay hvn henn; rw [hgr] at this; rw [hwt]; exact this)
              have HWT := Lib.hid (show wt = a1.waiting.set (gi a1.f.entry v).toNat (gr a1.waiting (gi a1.f.entry v) ++ [(v : Int)]) from by rw [HEN.out, hgr, Int.toNat_natCast]; exact hwt)
              clear hws2 hgr hwt
              -- the parent
              obtain ⟨y, hy⟩ : ∃ y, s.par[v]? = some y := ⟨_, List.getElem?_eq_getElem (by rw [HPN.out]; exact hvn)⟩
              have hyr := HOK2.out.par v y hy (by have := HVK.out; omega)
              obtain ⟨p, rfl⟩ : ∃ p : Nat, y = p := ⟨y.toNat, by omega⟩
              have hpv : p < v := by omega
              have hpn : p < n := by omega
              have hpi : (p : Int) < (n : Int) := by omega
              obtain ⟨cp, _, _, hpgl⟩ := own_at (HW.out.bag.row 1 _ _ rfl) hy
              have HY := Lib.hid hy
              have cp2 := (HB2.out.cell (p := ⟨pg, v, none⟩) hpgl).trans cp
              have d1 := (HB2.out.cell (p := ⟨W, 1, none⟩) hWl).trans c1
              obtain ⟨⟨f0, _, _⟩, _, _⟩ := wbox HA2.out.fin.box
              have f1 := (HA2.out.fin.cells HOK2a.out.f hvn).1
              have f2 := (HA2.out.fin.froz v).1.1
              have f3 := (HA2.out.fin.froz v).2.2.1
              have f4 := (HA2.out.fin.froz v).2.1.1
              clear hy hyr cp
              go_upto_region 14 with (fail)
              have HA3 := Lib.hid (HA2.out.puthangs HOK2a.out.f.hl hvn (p : Int))
              have HB3 := Lib.hid (below_put HB2.out f4 v (.int .i64 p))
              have HOK3 := Lib.hid (HOK2a.out.hang hvn hpv)
              clear cp2 d1 f0 f1 f2 f3 f4 HA2 HB2 HOK2a
              generalize w5.setCell ⟨hg, v, none⟩ (.int .i64 p) = w6 at *
              obtain ⟨a3, ha3⟩ : ∃ x : Ab, x = ⟨⟨a1.f.hangs.set v (p : Int), a1.f.entry, a1.f.best⟩, a1.out, wt⟩ := ⟨_, rfl⟩
              have HE3 := Lib.hid ha3
              rw [show (⟨⟨a1.f.hangs.set v (p : Int), a1.f.entry, a1.f.best⟩, a1.out, wt⟩ : Ab) = a3 from ha3.symm] at HA3 HOK3
              have hwt3 : a3.waiting = wt := by rw [ha3]
              clear ha3
              obtain ⟨h3, hh3⟩ : ∃ u, ws2[p]? = some u := ⟨_, List.getElem?_eq_getElem (by rw [HW2.out]; exact hpn)⟩
              obtain ⟨L3, hL3⟩ : ∃ u, a3.waiting[p]? = some u := ⟨_, List.getElem?_eq_getElem (by rw [HOK3.out.wl]; exact hpn)⟩
              obtain ⟨wa3, wc3, rfl⟩ : ∃ a cap, h3 = .slice a L3.length cap := by
                rcases own_slice (HA3.out.fin.bag.row _ _ _ (HA3.out.inrow hh3 hL3)) with ⟨q0, q1⟩ | ⟨g, cap, q0, _⟩
                · exact ⟨none, 0, by rw [q0, q1]⟩
                · exact ⟨_, _, q0⟩
              have hhd3 := HA3.out.hdr
              rw [HW2.out] at hhd3
              have ch3 := own_cell hhd3 hh3
              have HH3 := Lib.hid hh3; have HL3 := Lib.hid hL3; have HWT3 := Lib.hid hwt3
              have hL3l : L3.length ≤ 2000000 := Nat.le_trans (HOK3.out.wM _ (List.mem_of_getElem? hL3)) (by have := HMK.out; omega)
              clear hh3 hL3 hhd3 hwt3
              go_wp2_with (fail)
              clear ch3
              go_loopw [109] (fun i wx => ∃ j : Nat, j ≤ L3.length ∧ i = .int .i64 j ∧ Below w.heap.size w wx ∧ AbAt w.heap.size wx F (.slice (some ⟨hg, 0, none⟩) n hc) (.slice (some ⟨eg, 0, none⟩) n ec) (.slice (some ⟨bg, 0, none⟩) n bc) (.slice (some ⟨og, 0, none⟩) n n) (.slice (some ⟨wg, 0, none⟩) n n) ws2 ((L3.take j).foldl (Ab.wait p) a3)) (fun i _ => L3.length - (intOf i).toNat)
              case atStart => exact ⟨0, Nat.zero_le _, rfl, HB3.out, HA3.out⟩
              case round =>
                obtain ⟨j, hj, rfl, hbx, hax⟩ := hrel
                have HJ3 := Lib.hid (Ab.ok.folds (n := n) (M := M + 1) (step := Ab.wait p) (fun a x ha hx => ha.wait hpn hx) (L3.take j) a3 HOK3.out (fun x hx => HOK3.out.win _ (List.mem_of_getElem? HL3.out) x (List.mem_of_mem_take hx)))
                have hwj : ((L3.take j).foldl (Ab.wait p) a3).waiting = a3.waiting := wait_keeps _ _ _
                by_cases hjl : j < L3.length
                · obtain ⟨ux, hux⟩ : ∃ x, L3[j]? = some x := ⟨_, List.getElem?_eq_getElem hjl⟩
                  have hur := HOK3.out.win _ (List.mem_of_getElem? HL3.out) ux (List.mem_of_getElem? hux)
                  obtain ⟨u, rfl⟩ : ∃ u : Nat, ux = u := ⟨ux.toNat, by omega⟩
                  have hun : u < n := by omega
                  have HFT := Lib.hid (foldl_take (Ab.wait p) a3 hux)
                  have hji : (j : Int) < (L3.length : Int) := by omega
                  have hui : (u : Int) < (n : Int) := by omega
                  generalize (L3.take j).foldl (Ab.wait p) a3 = aj at *
                  have hrw := hax.fin.bag.row _ _ _ (hax.inrow HH3.out (by rw [hwj]; exact HL3.out))
                  obtain ⟨g3', hg3', _⟩ := own_head hrw (by omega)
                  subst hg3'
                  have k1 := (own_at hrw hux).1
                  obtain ⟨o0, ho0⟩ : ∃ o, aj.out[u]? = some o := ⟨_, List.getElem?_eq_getElem (by rw [HJ3.out.ol]; exact hun)⟩
                  obtain ⟨k2, k3, k4, k5⟩ := own_at (hax.fin.bag.row 3 _ _ rfl) ho0
                  have HAX3 := Lib.hid hax; have HBX3 := Lib.hid hbx; have HWJ := Lib.hid hwj
                  have hle := HJ3.out.f.least hun
                  obtain ⟨r1, hr1⟩ : ∃ r : Nat, (aj.f.least u).1 = r := ⟨((aj.f.least u).1).toNat, by omega⟩
                  have hr1n : r1 < n := by omega
                  have hr1i : (r1 : Int) < (n : Int) := by omega
                  have HR1 := Lib.hid hr1; have HLE := Lib.hid hle.1
                  clear hax hbx hrw hux hur ho0 hwj hr1 hle hj
                  go_upto_region 18 with (fail)
                  have HA7 := Lib.hid (HAX3.out.putout HJ3.out.ol hun (p : Int))
                  have HB7 := Lib.hid (below_put HBX3.out k4 u (.int .i64 p))
                  clear k1 k2 k3 k4 k5 HAX3 HBX3
                  generalize wr.setCell ⟨og, u, none⟩ (.int .i64 p) = w7 at *
                  go_upto_region 19 with (go_at_call 30; refine (least_any HA7.out.fin HJ3.out.f hn u hun).mono ?_; rintro e w8 ⟨he, hb8, hk8, rs8, hf8, hr8⟩; rw [HR1.out] at he; subst he)
                  have HA8 := Lib.hid (HA7.out.least hk8 hf8 hr8)
                  have HB8 := Lib.hid (HB7.out.trans hb8)
                  clear hb8 hk8 hf8 hr8 HA7 HB7
                  obtain ⟨⟨_, b1, _⟩, _, _⟩ := wbox HA8.out.fin.box
                  have m1 := (HA8.out.fin.cells HLE.out hr1n).2.1
                  have m2 := (HA8.out.fin.cells HLE.out hun).2.1
                  obtain ⟨e1, he1⟩ : ∃ e, gi (aj.f.least u).2.entry r1 = e := ⟨_, rfl⟩
                  obtain ⟨e2, he2⟩ : ∃ e, gi (aj.f.least u).2.entry u = e := ⟨_, rfl⟩
                  have HST := Lib.hid (show Ab.wait p aj u = ⟨(aj.f.least u).2, aj.out.set u (if e1 < e2 then (r1 : Int) else (p : Int)), aj.waiting⟩ from by
                    unfold Ab.wait
                    dsimp only
                    rw [HR1.out, he1, he2, Int.toNat_natCast])
                  dsimp only at m1 m2
                  rw [he1] at m1; rw [he2] at m2
                  clear he1 he2
                  by_cases hlt : e1 < e2
                  · have ql : decide (e1 < e2) = true := decide_eq_true hlt
                    rw [if_pos hlt] at HST
                    clear hlt
                    go_quiet (fail)
                    have HA9 := Lib.hid (HA8.out.below (below_drewN (Below.refl w8.heap.size w8) nq))
                    have HB9 := Lib.hid (below_drewN HB8.out nq)
                    clear b1 m1 m2 HA8 HB8
                    generalize w8.drewN nq = w9 at *
                    obtain ⟨k2, k3, k4, k5⟩ := own_at (HA9.out.fin.bag.row 3 _ _ rfl) (j := u) (x := p) (by show (aj.out.set u (p : Int))[u]? = _; rw [List.getElem?_set_self (by rw [HJ3.out.ol]; exact hun)])
                    go_wp2_with (fail)
                    go_roundw
                    case rel =>
                      refine ⟨j + 1, by omega, by go_num, below_put HB9.out k4 _ _, ?_⟩
                      rw [HFT.out, HST.out]
                      have h9 := HA9.out.putout (by show (aj.out.set u (p : Int)).length = n; rw [List.length_set]; exact HJ3.out.ol) hun (r1 : Int)
                      rw [List.set_set] at h9
                      exact h9
                    case measure => simp [intOf]; omega
                  · have ql : decide (e1 < e2) = false := decide_eq_false hlt
                    rw [if_neg hlt] at HST
                    clear hlt
                    go_quiet (fail)
                    have HA9 := Lib.hid (HA8.out.below (below_drewN (Below.refl w8.heap.size w8) nq))
                    have HB9 := Lib.hid (below_drewN HB8.out nq)
                    clear b1 m1 m2 HA8 HB8
                    generalize w8.drewN nq = w9 at *
                    go_wp2_with (fail)
                    go_roundw
                    case rel => exact ⟨j + 1, by omega, by go_num, HB9.out, by rw [HFT.out, HST.out]; exact HA9.out⟩
                    case measure => simp [intOf]; omega
                · obtain rfl : j = L3.length := by omega
                  rw [List.take_length] at hax HJ3
                  obtain ⟨a4, ha4⟩ : ∃ x, x = L3.foldl (Ab.wait p) a3 := ⟨_, rfl⟩
                  rw [← ha4] at hax HJ3
                  have hhd4 := hax.hdr
                  rw [HW2.out] at hhd4
                  obtain ⟨h4, hh4⟩ : ∃ u, ws2[p]? = some u := ⟨_, List.getElem?_eq_getElem (by rw [HW2.out]; exact hpn)⟩
                  have k1 := own_cell hhd4 hh4
                  obtain ⟨k2, k3⟩ := hhd4.lt wg rfl
                  have k4 : wr.frozen? ⟨wg, p, none⟩ = false := by
                    obtain ⟨cs, hcs⟩ := own_type hhd4 (q := wg) rfl
                    exact Lib.frozen_of_heap hcs p
                  have HA10 := Lib.hid (hax.nilwait HW2.out hpn)
                  have HB10 := Lib.hid (below_put hbx k2 p (.slice none 0 0))
                  have HROUND := Lib.hid (show Ab.round s a v = ⟨a4.f, a4.out, a4.waiting.set p []⟩ from by
                    have e1 : gr s.ins (v : Int) = row := by unfold gr; rw [Int.toNat_natCast, List.getD_eq_getElem?_getD, HROW.out]; rfl
                    have e2 : gi s.par (v : Int) = p := by unfold gi; rw [Int.toNat_natCast, List.getD_eq_getElem?_getD, HY.out]; rfl
                    have e3 : gr wt (p : Int) = L3 := by unfold gr; rw [Int.toNat_natCast, List.getD_eq_getElem?_getD, ← HWT3.out, HL3.out]; rfl
                    unfold Ab.round
                    dsimp only
                    rw [e1, ← HA1.out, e2, ← HWT.out, e3, ← HE3.out, ← ha4, Int.toNat_natCast])
                  have hwv : wrap64 ((v : Int) - 1) = (v : Int) - 1 := Go.IntWalk.wrap64_in _ (by omega)
                  have HWV := Lib.hid hwv
                  clear hax hbx hhd4 hh4 hwj ha4
                  go_wp2_with (fail)
                  clear hwv
                  go_roundg k'
                  case measure => omega
                  case rel =>
                    refine ⟨(v : Int) - 1, ⟨a4.f, a4.out, a4.waiting.set p []⟩, _, M + 1, by first | rfl | rw [HWV.out], by have := HVK.out; omega, by omega, by have := HMK.out; omega, HJ3.out.drop p, ?_, HB10.out, HA10.out⟩
                    have h1 := HFO.out
                    rw [show k' + 1 + 1 = k' + 2 from rfl, down_succ, List.foldl_cons, ← HVK.out, HROUND.out] at h1
                    rw [← HVK.out]
                    exact h1
            case qsteps =>
              refine (Steps.cons (k' := 1) ?s0 rfl (Steps.cons (k' := 2) ?s1 rfl (Steps.cons (k' := 3) ?s2 rfl (Steps.cons (k' := 4) ?s3 rfl (Steps.cons (k' := 5) ?s4 rfl (Steps.cons (k' := 6) ?s5 rfl (Steps.cons (k' := 7) ?s6 rfl (Steps.cons (k' := 8) ?s7 rfl (Steps.cons (k' := 9) ?s8 rfl (Steps.cons (k' := 10) ?s9 rfl (Steps.cons (k' := 11) ?s10 rfl (Steps.cons (k' := 12) ?s11 rfl (Steps.cons (k' := 13) ?s12 rfl (Steps.cons (k' := 14) ?s13 rfl (Steps.cons (k' := 15) ?s14 rfl (Steps.cons (k' := 16) ?s15 rfl (Steps.cons (k' := 17) ?s16 rfl (Steps.cons (k' := 18) ?s17 rfl (Steps.cons (k' := 19) ?s18 rfl (Steps.cons (k' := 20) ?s19 rfl (Steps.cons (k' := 21) ?s20 rfl (Steps.cons (k' := 22) ?s21 rfl (Steps.cons (k' := 23) ?s22 rfl Steps.nil)))))))))))))))))))))))
              case s0 =>
                intro L g w' hL hd hcl hI K hK
                simp only [full, dV, Act.put, List.setIfInBounds_toArray, List.set_cons_zero, List.set_cons_succ] at hK ⊢
                have HL := Lib.hid hL; have HD := Lib.hid hd; have HC := Lib.hid hcl; have HJ := Lib.hid hI; have HK := Lib.hid hK
                clear hL hd hcl hI hK
                go_simp
                exact HK.out _ _ g rfl (fun _ _ => rfl) (HJ.out.skip (by decide))
              case s1 =>
                intro L g w' hL hd hcl hI K hK
                simp only [full, dV, Act.put, List.setIfInBounds_toArray, List.set_cons_zero, List.set_cons_succ] at hK ⊢
                have HL := Lib.hid hL; have HD := Lib.hid hd; have HC := Lib.hid hcl; have HJ := Lib.hid hI; have HK := Lib.hid hK
                clear hL hd hcl hI hK
                go_simp
                exact HK.out _ _ g rfl (fun _ _ => rfl) (HJ.out.skip (by decide))
              case s2 =>
                intro L g w' hL hd hcl hI K hK
                simp only [full, dV, Act.put, List.setIfInBounds_toArray, List.set_cons_zero, List.set_cons_succ] at hK ⊢
                have HL := Lib.hid hL; have HD := Lib.hid hd; have HC := Lib.hid hcl; have HJ := Lib.hid hI; have HK := Lib.hid hK
                clear hL hd hcl hI hK
                go_simp
                exact HK.out _ _ g rfl (fun _ _ => rfl) (HJ.out.skip (by decide))
              case s3 =>
                intro L g w' hL hd hcl hI K hK
                simp only [full, dV, Act.put, List.setIfInBounds_toArray, List.set_cons_zero, List.set_cons_succ] at hK ⊢
                have HL := Lib.hid hL; have HD := Lib.hid hd; have HC := Lib.hid hcl; have HJ := Lib.hid hI; have HK := Lib.hid hK
                clear hL hd hcl hI hK
                go_simp
                exact HK.out _ _ g rfl (fun _ _ => rfl) (HJ.out.skip (by decide))
              case s4 =>
                intro L g w' hL hd hcl hI K hK
                simp only [full, dV, Act.put, List.setIfInBounds_toArray, List.set_cons_zero, List.set_cons_succ] at hK ⊢
                have l6 : L 6 = false := hcl.not 6 4 (by kernel_rfl) hL
                have l7 : L 7 = false := hcl.not 7 6 (by kernel_rfl) l6
                have l21 : L 21 = false := hcl.not 21 7 (by kernel_rfl) l7
                have l22 : L 22 = false := hcl.not 22 21 (by kernel_rfl) l21
                have hg := hI.held l22
                have z := (World.cell?_of_block (hg.block F hFl NF.out)).trans b1
                clear hg
                have HL := Lib.hid hL; have HD := Lib.hid hd; have HC := Lib.hid hcl; have HJ := Lib.hid hI; have HK := Lib.hid hK
                clear hL hd hcl hI hK
                go_simp
                exact HK.out _ _ g rfl (fun _ _ => rfl) (HJ.out.skip (by decide))
              case s5 =>
                intro L g w' hL hd hcl hI K hK
                simp only [full, dV, Act.put, List.setIfInBounds_toArray, List.set_cons_zero, List.set_cons_succ] at hK ⊢
                have HL := Lib.hid hL; have HD := Lib.hid hd; have HC := Lib.hid hcl; have HJ := Lib.hid hI; have HK := Lib.hid hK
                clear hL hd hcl hI hK
                go_simp
                exact HK.out _ _ g rfl (fun _ _ => rfl) (HJ.out.skip (by decide))
              case s6 =>
                intro L g w' hL hd hcl hI K hK
                simp only [full, dV, Act.put, List.setIfInBounds_toArray, List.set_cons_zero, List.set_cons_succ] at hK ⊢
                have HL := Lib.hid hL; have HD := Lib.hid hd; have HC := Lib.hid hcl; have HJ := Lib.hid hI; have HK := Lib.hid hK
                clear hL hd hcl hI hK
                go_simp
                exact HK.out _ _ g rfl (fun _ _ => rfl) (HJ.out.skip (by decide))
              case s7 =>
                intro L g w' hL hd hcl hI K hK
                simp only [full, dV, Act.put, List.setIfInBounds_toArray, List.set_cons_zero, List.set_cons_succ] at hK ⊢
                have l21 : L 21 = false := hcl.not 21 7 (by kernel_rfl) hL
                have l22 : L 22 = false := hcl.not 22 21 (by kernel_rfl) l21
                have hg := hI.held l22
                have z := (World.cell?_of_block (hg.block eg hegl NE.out)).trans ce
                clear hg
                have HL := Lib.hid hL; have HD := Lib.hid hd; have HC := Lib.hid hcl; have HJ := Lib.hid hI; have HK := Lib.hid hK
                clear hL hd hcl hI hK
                go_simp
                exact HK.out _ _ g rfl (fun _ _ => rfl) (HJ.out.skip (by decide))
              case s8 =>
                intro L g w' hL hd hcl hI K hK
                simp only [full, dV, Act.put, List.setIfInBounds_toArray, List.set_cons_zero, List.set_cons_succ] at hK ⊢
                have HL := Lib.hid hL; have HD := Lib.hid hd; have HC := Lib.hid hcl; have HJ := Lib.hid hI; have HK := Lib.hid hK
                clear hL hd hcl hI hK
                go_simp
                exact HK.out _ _ g rfl (fun _ _ => rfl) (HJ.out.skip (by decide))
              case s9 =>
                intro L g w' hL hd hcl hI K hK
                simp only [full, dV, Act.put, List.setIfInBounds_toArray, List.set_cons_zero, List.set_cons_succ] at hK ⊢
                have HL := Lib.hid hL; have HD := Lib.hid hd; have HC := Lib.hid hcl; have HJ := Lib.hid hI; have HK := Lib.hid hK
                clear hL hd hcl hI hK
                go_simp
                exact HK.out _ _ g rfl (fun _ _ => rfl) (HJ.out.skip (by decide))
              case s10 =>
                intro L g w' hL hd hcl hI K hK
                simp only [full, dV, Act.put, List.setIfInBounds_toArray, List.set_cons_zero, List.set_cons_succ] at hK ⊢
                have HL := Lib.hid hL; have HD := Lib.hid hd; have HC := Lib.hid hcl; have HJ := Lib.hid hI; have HK := Lib.hid hK
                clear hL hd hcl hI hK
                go_simp
                exact HK.out _ _ g rfl (fun _ _ => rfl) (HJ.out.skip (by decide))
              case s11 =>
                intro L g w' hL hd hcl hI K hK
                simp only [full, dV, Act.put, List.setIfInBounds_toArray, List.set_cons_zero, List.set_cons_succ] at hK ⊢
                have HL := Lib.hid hL; have HD := Lib.hid hd; have HC := Lib.hid hcl; have HJ := Lib.hid hI; have HK := Lib.hid hK
                clear hL hd hcl hI hK
                go_simp
                exact HK.out _ _ g rfl (fun _ _ => rfl) (HJ.out.skip (by decide))
              case s12 =>
                intro L g w' hL hd hcl hI K hK
                simp only [full, dV, Act.put, List.setIfInBounds_toArray, List.set_cons_zero, List.set_cons_succ] at hK ⊢
                have l14 : L 14 = false := hcl.not 14 12 (by kernel_rfl) hL
                have l15 : L 15 = false := hcl.not 15 14 (by kernel_rfl) l14
                have l16 : L 16 = false := hcl.not 16 15 (by kernel_rfl) l15
                have l17 : L 17 = false := hcl.not 17 16 (by kernel_rfl) l16
                have l20 : L 20 = false := hcl.not 20 17 (by kernel_rfl) l17
                have l22 : L 22 = false := hcl.not 22 20 (by kernel_rfl) l20
                have hg := hI.held l22
                have z := (World.cell?_of_block (hg.block F hFl NF.out)).trans b1
                clear hg
                have HL := Lib.hid hL; have HD := Lib.hid hd; have HC := Lib.hid hcl; have HJ := Lib.hid hI; have HK := Lib.hid hK
                clear hL hd hcl hI hK
                go_simp
                exact HK.out _ _ g rfl (fun _ _ => rfl) (HJ.out.skip (by decide))
              case s13 =>
                intro L g w' hL hd hcl hI K hK
                simp only [full, dV, Act.put, List.setIfInBounds_toArray, List.set_cons_zero, List.set_cons_succ] at hK ⊢
                have HL := Lib.hid hL; have HD := Lib.hid hd; have HC := Lib.hid hcl; have HJ := Lib.hid hI; have HK := Lib.hid hK
                clear hL hd hcl hI hK
                go_simp
                exact HK.out _ _ g rfl (fun _ _ => rfl) (HJ.out.skip (by decide))
              case s14 =>
                intro L g w' hL hd hcl hI K hK
                simp only [full, dV, Act.put, List.setIfInBounds_toArray, List.set_cons_zero, List.set_cons_succ] at hK ⊢
                have HL := Lib.hid hL; have HD := Lib.hid hd; have HC := Lib.hid hcl; have HJ := Lib.hid hI; have HK := Lib.hid hK
                clear hL hd hcl hI hK
                go_simp
                exact HK.out _ _ g rfl (fun _ _ => rfl) (HJ.out.skip (by decide))
              case s15 =>
                intro L g w' hL hd hcl hI K hK
                simp only [full, dV, Act.put, List.setIfInBounds_toArray, List.set_cons_zero, List.set_cons_succ] at hK ⊢
                have l16 : L 16 = false := hcl.not 16 15 (by kernel_rfl) hL
                have l17 : L 17 = false := hcl.not 17 16 (by kernel_rfl) l16
                have l20 : L 20 = false := hcl.not 20 17 (by kernel_rfl) l17
                have l22 : L 22 = false := hcl.not 22 20 (by kernel_rfl) l20
                have hg := hI.held l22
                have z := (World.cell?_of_block (hg.block eg hegl NE.out)).trans ce
                clear hg
                have HL := Lib.hid hL; have HD := Lib.hid hd; have HC := Lib.hid hcl; have HJ := Lib.hid hI; have HK := Lib.hid hK
                clear hL hd hcl hI hK
                go_simp
                exact HK.out _ _ g rfl (fun _ _ => rfl) (HJ.out.skip (by decide))
              case s16 =>
                intro L g w' hL hd hcl hI K hK
                simp only [full, dV, Act.put, List.setIfInBounds_toArray, List.set_cons_zero, List.set_cons_succ] at hK ⊢
                have HL := Lib.hid hL; have HD := Lib.hid hd; have HC := Lib.hid hcl; have HJ := Lib.hid hI; have HK := Lib.hid hK
                clear hL hd hcl hI hK
                go_simp
                exact HK.out _ _ g rfl (fun _ _ => rfl) (HJ.out.skip (by decide))
              case s17 =>
                intro L g w' hL hd hcl hI K hK
                simp only [full, dV, Act.put, List.setIfInBounds_toArray, List.set_cons_zero, List.set_cons_succ] at hK ⊢
                have l20 : L 20 = false := hcl.not 20 17 (by kernel_rfl) hL
                have l22 : L 22 = false := hcl.not 22 20 (by kernel_rfl) l20
                have hg := hI.held l22
                have z := (World.cell?_of_block (hg.block wg hwgl NG.out)).trans ch
                clear hg
                have HL := Lib.hid hL; have HD := Lib.hid hd; have HC := Lib.hid hcl; have HJ := Lib.hid hI; have HK := Lib.hid hK
                clear hL hd hcl hI hK
                go_simp
                exact HK.out _ _ g rfl (fun _ _ => rfl) (HJ.out.skip (by decide))
              case s18 =>
                intro L g w' hL hd hcl hI K hK
                simp only [full, dV, Act.put, List.setIfInBounds_toArray, List.set_cons_zero, List.set_cons_succ] at hK ⊢
                have HL := Lib.hid hL; have HD := Lib.hid hd; have HC := Lib.hid hcl; have HJ := Lib.hid hI; have HK := Lib.hid hK
                clear hL hd hcl hI hK
                go_simp
                exact HK.out _ _ g rfl (fun _ _ => rfl) (HJ.out.skip (by decide))
              case s19 =>
                intro L g w' hL hd hcl hI K hK
                simp only [full, dV, Act.put, List.setIfInBounds_toArray, List.set_cons_zero, List.set_cons_succ] at hK ⊢
                have l20 : L 20 = false := hcl.not 20 19 (by kernel_rfl) hL
                have l22 : L 22 = false := hcl.not 22 20 (by kernel_rfl) l20
                have HL := Lib.hid hL; have HD := Lib.hid hd; have HC := Lib.hid hcl; have HJ := Lib.hid hI; have HK := Lib.hid hK
                clear hL hd hcl hI hK
                go_simp
                exact HK.out _ _ (w'.heap.size, g.2.1, g.2.2) rfl (set_get 19 HL.out rfl) (HJ.out.build l20 l22)
              case s20 =>
                intro L g w' hL hd hcl hI K hK
                simp only [full, dV, Act.put, List.setIfInBounds_toArray, List.set_cons_zero, List.set_cons_succ] at hK ⊢
                have l22 : L 22 = false := hcl.not 22 20 (by kernel_rfl) hL
                have l19 : L 19 = true := dep_of hd 19 (by kernel_rfl)
                have HL := Lib.hid hL; have HD := Lib.hid hd; have HC := Lib.hid hcl; have HJ := Lib.hid hI; have HK := Lib.hid hK
                clear hL hd hcl hI hK
                rw [if_pos (by rfl)]
                refine wp_append_lies _ (.tmp 85) (.tmp 87) 35 ?eo w.heap.size 3 i0 (.int .i64 0) 1 8 Try.underlying35 HI.out HZ0.out HZ1.out HZ2.out rfl (by decide) (.slice ha xs.length hcap) xs.length (xs.map iV) ?e1 ?hown ⟨g.1, 0, none⟩ 1 1 [.int .i64 v] ?e2 rfl ?hnews (one_int _) (by decide) ?h63 ?hby ?hba w'.heap.size rfl ?_
                case eo => rfl
                case e1 => rfl
                case e2 => rfl
                case hown => exact own_keep HRV.out (fun q hq => (HJ.out.pre HL.out).block q (HRV.out.lt q hq).2)
                case hnews => exact World.news_of_block (cs := #[.int .i64 v]) (HJ.out.made l19 HL.out).2
                case h63 => unfold maxLen; omega
                case hby => omega
                case hba => exact Nat.le_trans hBw (HJ.out.pre HL.out).size
                intro b2 cap2 w4 hown4 hgr4 hat4 hlt4
                simp only [Act.put, List.setIfInBounds_toArray, List.set_cons_zero, List.set_cons_succ]
                exact HK.out _ _ (g.1, b2, cap2) rfl (set_get 20 HL.out rfl) (HJ.out.append HL.out l22 hown4 hgr4 hat4)
              case s21 =>
                intro L g w' hL hd hcl hI K hK
                simp only [full, dV, Act.put, List.setIfInBounds_toArray, List.set_cons_zero, List.set_cons_succ] at hK ⊢
                have HL := Lib.hid hL; have HD := Lib.hid hd; have HC := Lib.hid hcl; have HJ := Lib.hid hI; have HK := Lib.hid hK
                clear hL hd hcl hI hK
                go_simp
                exact HK.out _ _ g rfl (fun _ _ => rfl) (HJ.out.skip (by decide))
              case s22 =>
                intro L g w' hL hd hcl hI K hK
                simp only [full, dV, Act.put, List.setIfInBounds_toArray, List.set_cons_zero, List.set_cons_succ] at hK ⊢
                have l20 : L 20 = true := dep_of hd 20 (by kernel_rfl)
                have hg := hI.held hL
                have z := (World.frozen?_of_block (hg.block wg hwgl NG.out)).trans hfg
                have z2 := Nat.lt_of_lt_of_le hwgl hg.size
                have z3 := (World.cell?_of_block (hg.block wg hwgl NG.out)).trans ch
                clear hg
                have HL := Lib.hid hL; have HD := Lib.hid hd; have HC := Lib.hid hcl; have HJ := Lib.hid hI; have HK := Lib.hid hK
                clear hL hd hcl hI hK
                go_simp
                exact HK.out _ _ g rfl (fun _ _ => rfl) (HJ.out.store l20 HL.out)
end Go.Proofs.Ytipongpgmbhpkaa
