/-
  LexBytes: for every byte the law returns true, and its argument reads as before. The package-level table of marks is as the program's text lays it (the card ties it).
-/
import Derived.Test.YtjpejdjiecfbnabDoorBytesWalk
import Derived.Test.YtjpejdjiecfbnabDoorTie
import Derived.Test.YtjpejdjiecfbnabDoorCards
import Derived.ProofKit
import Derived.LaidMore
import Derived.OpenShut
import Derived.SliceStrings
import Derived.Stop.Joined
import Derived.SevenTiedAt
namespace Go.Proofs.YtjpejdjiecfbnabDoor.lexBytes
open Go.ChangeShapes Go.WideShapes Go.ChangeAt Go.WideMaps Go.WideElems Go.RowKit
set_option linter.unusedVariables false
theorem ok_two (c : UInt8) (k num : Int) (h : lexL [c] = .ok [⟨k, [c], num, 1, 1⟩, ⟨0, [], 0, 1, 2⟩]) (w : World) :
    Calls Tryd.prog 9 #[.string ⟨#[c]⟩] w fun e w' => ∃ g cap, e = .returned (.tuple #[.slice (some ⟨g, 0, none⟩) 2 cap, .agg #[.int .i64 0, .int .i64 0, .int .i64 0]]) ∧ Below w.heap.size w w' ∧ g < w'.heap.size ∧ 2 ≤ cap ∧
      w'.cell? ⟨g, 0, none⟩ = some (.int .i64 k) ∧ w'.cell? ⟨g, 1, none⟩ = some (.string ⟨#[c]⟩) := by
  refine (all_ok ⟨#[c]⟩ (by show 1 ≤ 65536; decide) _ h (by simp) w).mono ?_
  rintro e w' ⟨g, cap, rfl, hb, _, hg, hcap, hc⟩
  obtain ⟨h0, h1, _⟩ := hc 0 _ rfl
  exact ⟨g, cap, rfl, hb, hg, hcap, h0, h1⟩

theorem all (c : UInt8) (b off cp : Nat) (w : World) (htab : Table w b off cp) :
    Calls Tryd.prog 5 #[.int .u8 (c.toNat : Int)] w fun e w' => e = .returned (.bool true) ∧ Below w.heap.size w w' := by
  have hcv := fun w => conv_one c w
  have hS : (⟨#[c]⟩ : ByteArray).size = 1 := rfl
  have hSl : (⟨#[c]⟩ : ByteArray).toList = [c] := by rw [Lib.toList_data]
  have hr : (c.toNat : Int) < 256 := by have := c.toNat_lt; omega
  cases hl : letterB (c.toNat : Int) with
  | true => exact two_core c _ 1 0 _ hS hcv (fun w => ok_two c 1 0 (lex_letter c hl) w) (.inl ⟨rfl, by simp [letterB] at hl; omega⟩) w
  | false =>
    cases hd : digitB (c.toNat : Int) with
    | true => exact two_core c _ 2 0 _ hS hcv (fun w => ok_two c 2 _ (lex_digit c hl hd) w) (.inr ⟨rfl, by simp [digitB] at hd; omega⟩) w
    | false =>
      cases hb : blankB (c.toNat : Int) with
      | true =>
        refine blank_core _ _ hS hcv (fun w => ?_) (by simp [blankB] at hb; omega) w
        refine (all_ok ⟨#[c]⟩ (by show 1 ≤ 65536; decide) _ (lex_blank c hb) (by simp) w).mono ?_
        rintro e w' ⟨g, cap, rfl, hbb, _⟩
        exact ⟨g, cap, rfl, hbb⟩
      | false =>
        have h1 : ((c.toNat : Int) == 32) = false ∧ ((c.toNat : Int) == 9) = false ∧ ((c.toNat : Int) == 10) = false ∧ ((c.toNat : Int) == 13) = false := by
          simp [blankB] at hb
          simp
          omega
        have h2 : ((c.toNat : Int) == 95) = false := by simp [letterB] at hl; simp; omega
        have h3 : ((c.toNat : Int) < 48) ∨ (57 < (c.toNat : Int) ∧ (c.toNat : Int) < 65) ∨ (90 < (c.toNat : Int) ∧ (c.toNat : Int) < 97) ∨ 122 < (c.toNat : Int) := by
          simp [letterB] at hl; simp [digitB] at hd; omega
        cases hs : singleB c with
        | true => exact mark_core c _ _ hS hSl b off cp hcv (fun w => ok_two c 4 0 (lex_mark c hl hd hb hs) w) hs h1.1 h1.2.1 h1.2.2.1 h1.2.2.2 h2 h3 w htab
        | false => exact sign_core c _ _ hS hSl b off cp hcv (fun w => all_bad _ (by show 1 ≤ 65536; decide) 10 1 1 (lex_sign c hl hd hb hs) w) hs h1.1 h1.2.1 h1.2.2.1 h1.2.2.2 h2 h3 w htab

theorem gMarks : Tryd.prog.globalNamed "palings/palingslaw02.marks" = some 1 := by kernel_rfl
theorem tMarks : (Tryd.prog.globals[1]?).map (·.type) = some 33 := by kernel_rfl
theorem cells9 : Tryd.prog.cellsOf 9 = 1 := by kernel_rfl
theorem marks_data {H : Type} : (Rows.laid_palings_palingslaw02_marks : DataW H) = .slice (marksAll.map fun b => .lit (.string b)) [] := rfl

theorem of_laid {W : World} (h : laidMetH Tryd.prog [("palings/palingslaw02.marks", Rows.laid_palings_palingslaw02_marks)] W) : ∃ b off cap, Table W b off cap := by
  rw [MakeChecks.laidMetH_plain _ _ _ (by kernel_rfl)] at h
  obtain ⟨ps, ⟨g0, t0, cs0, f0, p0, q0, hg0, ht0, hv0, hd0, _, _⟩, _, _⟩ := h
  obtain rfl := Option.some.inj (gMarks.symm.trans hg0)
  obtain rfl := Option.some.inj (tMarks.symm.trans ht0)
  rw [marks_data] at hd0
  rcases open_strings Tryd.underlying33 Tryd.underlying9 cells9 hd0 with ⟨_, hx⟩ | ⟨a, len, cap, ss, hcs, _, hlc, _, hz, hx, hcell, _⟩
  · simp at hx
  simp only [Prod.mk.injEq, DataW.slice.injEq] at hx
  obtain ⟨⟨hx1, hx2⟩, _⟩ := hx
  have hdrop : ss.drop len = [] := by
    have := congrArg List.length hx2
    simp only [strs, List.length_map, List.length_nil] at this
    exact List.eq_nil_of_length_eq_zero this.symm
  have hle : ss.length ≤ len := by
    have := congrArg List.length hdrop
    simp at this; omega
  have htake : ss.take len = ss := List.take_of_length_le hle
  rw [htake] at hx1
  have hn : ss.length = 28 := by
    have := congrArg List.length hx1
    simp only [strs, List.length_map] at this
    exact this.symm
  have hlen : len = 28 := by
    split at hz <;> omega
  subst hlen
  have hmem : ∀ j x, marksAll[j]? = some x → ss.getD j ByteArray.empty = ⟨x.toArray⟩ := by
    intro j x hj
    have h1 := congrArg (·[j]?) hx1
    simp only [strs, List.getElem?_map, hj, Option.map_some] at h1
    cases hsj : ss[j]? with
    | none => rw [hsj] at h1; simp at h1
    | some y =>
      rw [hsj] at h1
      simp only [Option.map_some, Option.some.injEq, DataW.lit.injEq, Lit.string.injEq] at h1
      have : ss.getD j ByteArray.empty = y := by simp [List.getD, hsj]
      rw [this]
      exact bytes_inj (by rw [← h1])
  obtain ⟨b, off, spot⟩ := a
  have hspot : spot = none := by simpa [Addr.add] using World.cell?_spot (hcell 0 (by omega))
  subst hspot
  have hc : ∀ j, j < 28 → W.cell? ⟨b, off + j, none⟩ = some (.string (ss.getD j ByteArray.empty)) := fun j hj => by
    rw [← Go.WideShapes.add_plain]; exact hcell j (by omega)
  have hvar : W.cell? ⟨1, 0, none⟩ = some (.slice (some ⟨b, off, none⟩) 28 cap) := by
    have := World.var?_cell hg0 hv0 0
    rw [Array.eq_one_of_toList hcs] at this
    simpa using this
  refine ⟨b, off, cap, World.block_lt_of_cell? _ _ (hc 0 (by omega)), World.block_lt_of_cell? _ _ hvar, hvar, fun j x hj => ?_⟩
  have hjl : j < 28 := (List.getElem?_eq_some_iff.1 hj).1
  rw [hc j hjl, hmem j x hj]

theorem door_met (os : Os) (args : Array Value) : laidMetH Tryd.prog [("palings/palingslaw02.marks", Rows.laid_palings_palingslaw02_marks)] ((World.doorLaid Tryd.prog 4000 os).forCall (fun _ _ => 0) ⟨#[], args, []⟩).memory :=
  laidMetH_of_parts3 (fuel := 8) (laidMet_of_run' 8 (by kernel_rfl) (by kernel_rfl)) (by kernel_rfl) (by kernel_rfl)
theorem own : ownKnob Tryd.prog.godebug = none := by kernel_rfl

set_option maxRecDepth 100000 in
theorem lifted (os : Os) (started : os.Started) (H : Type) (enc : TypeId × Value → H) :
    ReturnsInHanded {} Tryd.checked os 5 .any (fun w args => (Rows.lexBytesSpec.pre enc Tryd.prog Tryd.f5 [] false w args ∧ laidMetH Tryd.prog [("palings/palingslaw02.marks", Rows.laid_palings_palingslaw02_marks)] w) ∧ sizedMet enc Tryd.prog Tryd.f5 (OpenSpec.ofChange Rows.lexBytesSpec) false w args)
      (Rows.lexBytesSpec.post enc Tryd.prog Tryd.f5 false true false false) := by
  refine returnsInHanded_of_change_and (C := Tryd.checked) (X := fun w _ => laidMetH Tryd.prog [("palings/palingslaw02.marks", Rows.laid_palings_palingslaw02_marks)] w) (fun _ _ _ hh h => h.of_heap hh) own started (by kernel_rfl) Tryd.func5
    (ChangeSpec.witness_shaped (enc := enc) (C := Tryd.checked) (os := os) (X := fun w _ => laidMetH Tryd.prog [("palings/palingslaw02.marks", Rows.laid_palings_palingslaw02_marks)] w) false (World.doorLaid Tryd.prog 4000 os) #[.int .u8 0] 8 rfl (World.shaped_of_RefB (by kernel_rfl) (by kernel_rfl)) (by kernel_rfl) (by kernel_rfl) (by kernel_rfl) (door_met os _)) ?_
  intro W base args ds gs before hval0 hW _ _ hL _
  have hval : ∀ (j : Nat) t v, Tryd.f5.params[j]? = some t → args[j]? = some v → Value.okWide Tryd.prog W .any base t v := hval0
  have hW' := hW
  obtain ⟨p, q, hA0, hV, rfl, hfz, hnd⟩ := hW
  have hA : DataW.TrodAll enc Tryd.prog W 0 (fun _ => true) true Tryd.f5.params.toList args.toList ds p := hA0
  rw [Tryd.params5] at hA hval
  obtain ⟨v0, vs0, d0, ds0, p0, q0, hargs, rfl, rfl, h0, r0⟩ := trodAll_cons hA
  obtain ⟨rfl, rfl, rfl⟩ := trodAll_nil r0
  obtain rfl : args = #[v0] := by cases args; simp_all
  obtain ⟨rfl, rfl⟩ := trodVars_none hV
  obtain ⟨a0, rfl, rfl, rfl, w0⟩ := open_int Tryd.underlying5 (hval 0 5 v0 rfl rfl) h0
  clear hA0 hval0
  simp only [List.append_nil] at hW'
  have hbd := bounds_u8 w0
  obtain ⟨b, off, cap, htab⟩ := of_laid hL
  have ha : ((UInt8.ofNat a0.toNat).toNat : Int) = a0 := by
    have : a0.toNat % 256 = a0.toNat := Nat.mod_eq_of_lt (by omega)
    simp [this]; omega
  have hall := all (UInt8.ofNat a0.toNat) b off cap W htab
  rw [ha] at hall
  refine hall.mono fun e W' ⟨he, hg⟩ => ?_
  subst he
  exact ⟨_, rfl, post_new hW' (fun _ _ _ => (trodAll_cons_mk (shut_bool Tryd.underlying4 _) trodAll_mk0)) (fun sp => (trodAll_cons_mk (shut_int Tryd.underlying5 w0) trodAll_mk0)) (fun _ => rfl) hg (ok_one (by kernel_rfl) rfl (okWide_bool_mk Tryd.underlying4 _))⟩

theorem row_holds : Rows.LexBytesSaid :=
  OpenClaim.holds_of_wide 5 Tryd.f5 rfl rfl rfl rfl rfl rfl rfl ⟨rfl, rfl, rfl, rfl, rfl⟩ rfl rfl rfl rfl rfl (by kernel_rfl) Tryd.func5 (by kernel_rfl)
    (of_decide_eq_true (by kernel_rfl)) (by unfold Func.isWrapper; first | (rw [if_pos (by decide +kernel)]; kernel_rfl) | (rw [if_neg (by decide +kernel)]; exact ⟨rfl, rfl⟩))
    (fun os started H enc _ => lifted os started H enc)

/-- THE TIED CARD. -/
theorem proved : Rows.LexBytesCardSaid :=
  Claim7.holds_tied_plain_at .later [] [.data] true (true, "72030b1ae5e95108665c3ed7d7c2e021f425da67ab591d7489d7eec1aa41a83d") false
    row_holds (fun _ h => by cases h) (by kernel_rfl) (fun _ h => by cases h) lexBytes_row_tie rfl ⟨rfl, rfl⟩ (by kernel_rfl) rfl
    (fun f fn hf hfn => by
      obtain rfl : f = 5 := Option.some.inj ((show Tryd.prog.funcNamed "palings/palingslaw02.LexBytes" = some 5 by kernel_rfl).symm.trans hf) |>.symm
      obtain rfl : fn = Tryd.f5 := (Option.some.inj (Tryd.func5.symm.trans hfn)).symm
      exact ⟨by kernel_rfl, fun j t ht => by
        rw [Tryd.params5] at ht
        have hm : t ∈ [5] := by simpa using Array.mem_of_getElem? ht
        have hall : ([5].all fun u => !Tryd.prog.wantsStandIn u) = true := by kernel_rfl
        exact (show Tryd.prog.wantsStandIn t = false by simpa using List.all_eq_true.1 hall t hm)⟩)
    (by kernel_rfl)
#print axioms proved
end Go.Proofs.YtjpejdjiecfbnabDoor.lexBytes
