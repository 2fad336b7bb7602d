/-
  LexPieces holds for all its inputs: names, numbers, words and marks in any order, with whatever blanks between, are read back, each at its place. Condition: the tables of the package and of the library start as the program's text lays them (the tied card).
-/
import Derived.Test.YteapdemofkmonaaDoorTie
import Derived.Test.YteapdemofkmonaaDoorCards
import Derived.Test.YteapdemofkmonaaDoorPcs
import Derived.Test.YteapdemofkmonaaDoorPostD
import Derived.Deep.Slices
import Derived.Deep.Strs
import Derived.Lib.LaidTab
import Derived.Stop.LaidErr
import Derived.ProofKit
import Derived.LaidMore
import Derived.OpenShut
import Derived.ShutString
import Derived.SliceStrings
import Derived.Stop.Joined
import Derived.SevenTiedAt
namespace Go.Proofs.YteapdemofkmonaaDoor.lexPieces
open Go.ChangeShapes Go.WideShapes Go.ChangeAt Go.WideMaps Go.WideElems Go.RowKit
open Go.ChangeMaps (open_string shut_string)
open Go.Deep
set_option linter.unusedVariables false

open Go.Deep in
theorem parg_of {H : Type} {enc : TypeId × Value → H} {W : World} {a0 : Option Addr} {len cap : Nat} {d : DataW H} {p : List MemPlace} (h : DataW.Trod enc Tryd.prog W 0 (fun _ => true) true 22 (.slice a0 len cap) d p) :
    ∃ L : List (Int × Int × Int), L.length = len ∧ PArg W L a0 := by
  obtain ⟨fuel, hf⟩ := h
  rcases open_slice Tryd.underlying22 hf with ⟨hcs, _⟩ | ⟨a, len', cap', m, n, D, Pl, hcs, _, hl, _, hm, _, hx⟩
  · simp [Value.cells] at hcs
    obtain ⟨rfl, rfl, rfl⟩ := hcs
    exact ⟨[], rfl, ⟨fun i k n g hi => by simp at hi⟩⟩
  · simp [Value.cells] at hcs
    obtain ⟨rfl, rfl, rfl⟩ := hcs
    have hcell : ∀ i, i < len → ∃ t : Int × Int × Int, W.cell? (a.add (i * 3)) = some (.int .i64 t.1) ∧ W.cell? ((a.add (i * 3)).add 1) = some (.int .i64 t.2.1) ∧ W.cell? ((a.add (i * 3)).add 2) = some (.int .i64 t.2.2) := by
      intro i hi
      obtain ⟨cs', h1, h2⟩ := hx i (by rw [hm]; simp; omega)
      rw [show Tryd.prog.cellsOf 26 = 3 by kernel_rfl] at h1
      obtain ⟨_, hlen, hc⟩ := World.cells?_some h1
      match cs', hlen with
      | [c0, c1, c2], _ =>
        obtain ⟨y0, y1, y2, n', _, _, t0, t1, t2⟩ := trod_struct3 Tryd.underlying26 h2
        obtain ⟨z0, e0, _, _⟩ := DataW.trod_int Tryd.underlying3 (by simpa using t0)
        obtain ⟨z1, e1, _, _⟩ := DataW.trod_int Tryd.underlying3 (by simpa using t1)
        obtain ⟨z2, e2, _, _⟩ := DataW.trod_int Tryd.underlying3 (by simpa using t2)
        rw [show Tryd.prog.cellsOf 3 = 1 by kernel_rfl] at e0 e1 e2
        simp at e0 e1 e2
        subst e0; subst e1; subst e2
        refine ⟨(z0, z1, z2), ?_, hc 1 (by decide), hc 2 (by decide)⟩
        have := hc 0 (by decide)
        rwa [show (a.add (i * 3)).add 0 = a.add (i * 3) from rfl] at this
    obtain ⟨f, hfx⟩ := choose_lt hcell
    refine ⟨(List.range len).map f, by simp, ⟨fun i k n g hi => ?_⟩⟩
    have hil : i < len := by have := (List.getElem?_eq_some_iff.1 hi).1; simpa using this
    have hfi : f i = (k, n, g) := by simpa [hil] using hi
    obtain ⟨x0, x1, x2⟩ := hfx i hil
    rw [hfi] at x0 x1 x2
    obtain ⟨b, off, spot⟩ := a
    have hspot : spot = none := by
      obtain ⟨y0, _⟩ := hfx 0 (by omega)
      simpa [Addr.add] using World.cell?_spot y0
    subst hspot
    have add : ∀ (b o j : Nat), (⟨b, o, none⟩ : Addr).add j = ⟨b, o + j, none⟩ := fun b o j => by unfold Addr.add; split <;> simp_all
    rw [add] at x0 x1 x2
    rw [add] at x1 x2
    exact ⟨b, off, rfl, x0, x1, x2⟩
theorem cells9 : Tryd.prog.cellsOf 9 = 1 := by kernel_rfl
theorem tabS_of {W : World} {nm : String} {g : Nat} {xs : List (List UInt8)} {dd : DataW Unit} {rest : List (String × DataW Unit)} (hpos : 0 < xs.length) (hg : Tryd.prog.globalNamed nm = some g) (hty : (Tryd.prog.globals[g]?).map (·.type) = some 33) (hd : dd = .slice (xs.map fun b => .lit (.string b)) []) (h : laidMet Tryd.prog ((nm, dd) :: rest) W) : ∃ b off cap, TabS W g xs b off cap := by
  subst hd
  obtain ⟨ps, ⟨g0, t0, cs0, f0, p0, q0, hg0, ht0, hv0, hd0, _, _⟩, _⟩ := h
  obtain rfl := Option.some.inj (hg.symm.trans hg0)
  obtain rfl := Option.some.inj (hty.symm.trans ht0)
  rcases open_strings Tryd.underlying33 Tryd.underlying9 cells9 hd0 with ⟨_, hx⟩ | ⟨a, len, cap, ss, hcs, _, hlc, _, hz, hx, hcell, _⟩
  · simp at hx
  simp only [Prod.mk.injEq, DataW.slice.injEq] at hx
  obtain ⟨⟨hx1, hx2⟩, _⟩ := hx
  have hdrop : ss.drop len = [] := by
    have := congrArg List.length hx2
    simp only [strs, List.length_map, List.length_nil] at this
    exact List.eq_nil_of_length_eq_zero this.symm
  have hle : ss.length ≤ len := by
    have := congrArg List.length hdrop
    simp at this; omega
  have htake : ss.take len = ss := List.take_of_length_le hle
  rw [htake] at hx1
  have hn : ss.length = xs.length := by
    have := congrArg List.length hx1
    simp only [strs, List.length_map] at this
    exact this.symm
  have hlen : len = xs.length := by
    split at hz <;> omega
  subst hlen
  have hmem : ∀ j x, xs[j]? = some x → ss.getD j ByteArray.empty = ⟨x.toArray⟩ := by
    intro j x hj
    have h1 := congrArg (·[j]?) hx1
    simp only [strs, List.getElem?_map, hj, Option.map_some] at h1
    cases hsj : ss[j]? with
    | none => rw [hsj] at h1; simp at h1
    | some y =>
      rw [hsj] at h1
      simp only [Option.map_some, Option.some.injEq, DataW.lit.injEq, Lit.string.injEq] at h1
      have : ss.getD j ByteArray.empty = y := by simp [List.getD, hsj]
      rw [this]
      exact bytes_inj (by rw [← h1])
  obtain ⟨b, off, spot⟩ := a
  have hspot : spot = none := by simpa [Addr.add] using World.cell?_spot (hcell 0 (by omega))
  subst hspot
  have hc : ∀ j, j < xs.length → W.cell? ⟨b, off + j, none⟩ = some (.string (ss.getD j ByteArray.empty)) := fun j hj => by
    rw [← Go.WideShapes.add_plain]; exact hcell j (by omega)
  have hvar : W.cell? ⟨g, 0, none⟩ = some (.slice (some ⟨b, off, none⟩) xs.length cap) := by
    have := World.var?_cell hg0 hv0 0
    rw [Array.eq_one_of_toList hcs] at this
    simpa using this
  exact ⟨b, off, cap, ⟨hvar, fun j x hj => by rw [hc j (List.getElem?_eq_some_iff.1 hj).1, hmem j x hj]⟩⟩
theorem tabs_of {W : World} (h : laidMetH Tryd.prog [("math/bits.deBruijn32tab", Rows.laid_math_bits_deBruijn32tab), ("math/bits.deBruijn64tab", Rows.laid_math_bits_deBruijn64tab), ("internal/strconv.uint64pow10", Rows.laid_internal_strconv_uint64pow10), ("palings/palingslaw02.words", Rows.laid_palings_palingslaw02_words), ("palings/palingslaw02.marks", Rows.laid_palings_palingslaw02_marks)] W) : ∃ b0 o0 c0 b1 o1 c1, Tabs W b0 o0 c0 b1 o1 c1 := by
  rw [MakeChecks.laidMetH_plain _ _ _ (by kernel_rfl)] at h
  have h2 := h.tail.tail
  have h3 := h2.tail
  have h4 := h3.tail
  rw [show (Rows.laid_internal_strconv_uint64pow10 : DataW Unit) = Lib.tabData .u64 Lib.pow10Tab from rfl] at h2
  have hp := Lib.tabIs_of_head (P := Tryd.prog) (g := 2) (t := 66) (e := 42) (n := 20) (by kernel_rfl) (by kernel_rfl) Tryd.underlying66 Tryd.underlying42 (by kernel_rfl) (by kernel_rfl) h2
  obtain ⟨b0, o0, c0, hw⟩ := tabS_of (g := 0) (xs := wordsL) (by decide) (by kernel_rfl) (by kernel_rfl) rfl h3
  obtain ⟨b1, o1, c1, hm⟩ := tabS_of (g := 1) (xs := marksT) (by decide) (by kernel_rfl) (by kernel_rfl) rfl h4
  exact ⟨b0, o0, c0, b1, o1, c1, ⟨hp, hw, hm⟩⟩
set_option maxHeartbeats 1000000 in
theorem pieces_big (a : Option Addr) (len cap : Nat) (h : 40 < len) (w : World) : Calls Tryd.prog 3 #[.slice a len cap] w fun e w' => e = .returned (.bool true) ∧ Below w.heap.size w w' := by
  have hl40 : (40 : Int) < (len : Int) := by omega
  go_enter Tryd.func3, Tryd.ntmps3
  go_wp2_with (fail)
  refine (head_any _).mono ?_
  rintro e w1 ⟨rfl, hb1⟩
  go_wp2_with (fail)
  go_ret
  exact ⟨rfl, hb1⟩
theorem all {H : Type} {enc : TypeId × Value → H} (W : World) (a0 : Option Addr) (len cap : Nat) (d : DataW H) (p : List MemPlace) (h : DataW.Trod enc Tryd.prog W 0 (fun _ => true) true 22 (.slice a0 len cap) d p)
    (hL : laidMetH Tryd.prog [("math/bits.deBruijn32tab", Rows.laid_math_bits_deBruijn32tab), ("math/bits.deBruijn64tab", Rows.laid_math_bits_deBruijn64tab), ("internal/strconv.uint64pow10", Rows.laid_internal_strconv_uint64pow10), ("palings/palingslaw02.words", Rows.laid_palings_palingslaw02_words), ("palings/palingslaw02.marks", Rows.laid_palings_palingslaw02_marks)] W) : Calls Tryd.prog 3 #[.slice a0 len cap] W fun e w' => e = .returned (.bool true) ∧ Below W.heap.size W w' := by
  obtain ⟨b0, o0, c0, b1, o1, c1, ht⟩ := tabs_of hL
  by_cases hbig : 40 < len
  · exact pieces_big a0 len cap hbig W
  · obtain ⟨L, rfl, hp⟩ := parg_of h
    exact pieces_core L _ rfl (by omega) a0 cap W hp b0 o0 c0 b1 o1 c1 ht


theorem door_met (os : Os) (args : Array Value) : laidMetH Tryd.prog [("math/bits.deBruijn32tab", Rows.laid_math_bits_deBruijn32tab), ("math/bits.deBruijn64tab", Rows.laid_math_bits_deBruijn64tab), ("internal/strconv.uint64pow10", Rows.laid_internal_strconv_uint64pow10), ("palings/palingslaw02.words", Rows.laid_palings_palingslaw02_words), ("palings/palingslaw02.marks", Rows.laid_palings_palingslaw02_marks)] ((World.doorLaid Tryd.prog 4000 os).forCall (fun _ _ => 0) ⟨#[], args, []⟩).memory :=
  laidMetH_of_parts3 (fuel := 8) (laidMet_of_run' 8 (by kernel_rfl) (by kernel_rfl)) (by kernel_rfl) (by kernel_rfl)
theorem own : ownKnob Tryd.prog.godebug = none := by kernel_rfl

set_option maxHeartbeats 2000000 in
set_option maxRecDepth 100000 in
theorem lifted (os : Os) (started : os.Started) (H : Type) (enc : TypeId × Value → H) :
    ReturnsInHanded {} Tryd.checked os 3 .any (fun w args => (Rows.lexPiecesSpec.pre enc Tryd.prog Tryd.f3 [] false w args ∧ laidMetH Tryd.prog [("math/bits.deBruijn32tab", Rows.laid_math_bits_deBruijn32tab), ("math/bits.deBruijn64tab", Rows.laid_math_bits_deBruijn64tab), ("internal/strconv.uint64pow10", Rows.laid_internal_strconv_uint64pow10), ("palings/palingslaw02.words", Rows.laid_palings_palingslaw02_words), ("palings/palingslaw02.marks", Rows.laid_palings_palingslaw02_marks)] w) ∧ sizedMet enc Tryd.prog Tryd.f3 (OpenSpec.ofChange Rows.lexPiecesSpec) false w args)
      (Rows.lexPiecesSpec.post enc Tryd.prog Tryd.f3 false true false false) := by
  refine returnsInHanded_of_change_and (C := Tryd.checked) (X := fun w _ => laidMetH Tryd.prog [("math/bits.deBruijn32tab", Rows.laid_math_bits_deBruijn32tab), ("math/bits.deBruijn64tab", Rows.laid_math_bits_deBruijn64tab), ("internal/strconv.uint64pow10", Rows.laid_internal_strconv_uint64pow10), ("palings/palingslaw02.words", Rows.laid_palings_palingslaw02_words), ("palings/palingslaw02.marks", Rows.laid_palings_palingslaw02_marks)] w) (fun _ _ _ hh h => h.of_heap hh) own started (by kernel_rfl) Tryd.func3
    (ChangeSpec.witness_shaped (enc := enc) (C := Tryd.checked) (os := os) (X := fun w _ => laidMetH Tryd.prog [("math/bits.deBruijn32tab", Rows.laid_math_bits_deBruijn32tab), ("math/bits.deBruijn64tab", Rows.laid_math_bits_deBruijn64tab), ("internal/strconv.uint64pow10", Rows.laid_internal_strconv_uint64pow10), ("palings/palingslaw02.words", Rows.laid_palings_palingslaw02_words), ("palings/palingslaw02.marks", Rows.laid_palings_palingslaw02_marks)] w) false (World.doorLaid Tryd.prog 4000 os) #[.slice none 0 0] 8 rfl (World.shaped_of_RefB (by kernel_rfl) (by kernel_rfl)) (by kernel_rfl) (by kernel_rfl) (by kernel_rfl) (door_met os _)) ?_
  intro W base args ds gs before hval0 hW _ _ hL _
  have hval : ∀ (j : Nat) t v, Tryd.f3.params[j]? = some t → args[j]? = some v → Value.okWide Tryd.prog W .any base t v := hval0
  have hW' := hW
  obtain ⟨p, q, hA0, hV, rfl, hfz, hnd⟩ := hW
  have hA : DataW.TrodAll enc Tryd.prog W 0 (fun _ => true) true Tryd.f3.params.toList args.toList ds p := hA0
  rw [Tryd.params3] at hA hval
  obtain ⟨v0, vs0, d0, ds0, p0, q0, hargs, rfl, rfl, h0, r0⟩ := trodAll_cons hA
  obtain ⟨rfl, rfl, rfl⟩ := trodAll_nil r0
  obtain rfl : args = #[v0] := by cases args; simp_all
  obtain ⟨rfl, rfl⟩ := trodVars_none hV
  obtain ⟨a0, len0, cap0, rfl⟩ := okWide_slice Tryd.underlying22 (hval 0 22 v0 rfl rfl)
  clear hA0 hval0
  simp only [List.append_nil] at hW'
  refine (all W a0 len0 cap0 _ _ h0 hL).mono fun e W' ⟨he, hg⟩ => ?_
  subst he
  exact ⟨_, rfl, post_deep hW' rfl rfl rfl (fun _ _ _ => (trodAll_cons_mk (shut_bool Tryd.underlying4 _) trodAll_mk0)) (by kernel_rfl) (by kernel_rfl) hg (ok_one (by kernel_rfl) rfl (okWide_bool_mk Tryd.underlying4 _))⟩

theorem row_holds : Rows.LexPiecesSaid :=
  OpenClaim.holds_of_wide 3 Tryd.f3 rfl rfl rfl rfl rfl rfl rfl ⟨rfl, rfl, rfl, rfl, rfl⟩ rfl rfl rfl rfl rfl (by kernel_rfl) Tryd.func3 (by kernel_rfl)
    (of_decide_eq_true (by kernel_rfl)) (by unfold Func.isWrapper; first | (rw [if_pos (by decide +kernel)]; kernel_rfl) | (rw [if_neg (by decide +kernel)]; exact ⟨rfl, rfl⟩))
    (fun os started H enc _ => lifted os started H enc)

/-- THE TIED CARD. -/
theorem proved : Rows.LexPiecesCardSaid :=
  Claim7.holds_tied_plain_at .later [] [.data, .data, .data, .data, .data] true (true, "19517741b525764075dfed367bc930aaf0c148be384049d7ecbfb31c2198ab84") false
    row_holds (fun _ h => by cases h) (by kernel_rfl) (fun _ h => by cases h) lexPieces_row_tie rfl ⟨rfl, rfl⟩ (by kernel_rfl) rfl
    (fun f fn hf hfn => by
      obtain rfl : f = 3 := Option.some.inj ((show Tryd.prog.funcNamed "palings/palingslaw02.LexPieces" = some 3 by kernel_rfl).symm.trans hf) |>.symm
      obtain rfl : fn = Tryd.f3 := (Option.some.inj (Tryd.func3.symm.trans hfn)).symm
      exact ⟨by kernel_rfl, fun j t ht => by
        rw [Tryd.params3] at ht
        have hm : t ∈ [22] := by simpa using Array.mem_of_getElem? ht
        have hall : ([22].all fun u => !Tryd.prog.wantsStandIn u) = true := by kernel_rfl
        exact (show Tryd.prog.wantsStandIn t = false by simpa using List.all_eq_true.1 hall t hm)⟩)
    (by kernel_rfl)
#print axioms proved
end Go.Proofs.YteapdemofkmonaaDoor.lexPieces
