/-
  WordKinds: for every number and two words the law returns true, and its arguments read as before. The package-level table of names is as the program's text lays it (the card ties it).
-/
import Derived.Test.YtjpejdjiecfbnaaDoorKindsWalk
import Derived.Test.YtjpejdjiecfbnaaDoorTie
import Derived.Test.YtjpejdjiecfbnaaDoorCards
import Derived.ProofKit
import Derived.LaidMore
import Derived.OpenShut
import Derived.Stop.Joined
import Derived.SevenTiedAt
namespace Go.Proofs.YtjpejdjiecfbnaaDoor.wordKinds
open Go.ChangeShapes Go.WideShapes Go.ChangeAt Go.WideMaps Go.WideElems Go.RowKit
/-! ### What the table's cells hold -/
theorem cells_of_strs {H : Type} {enc : TypeId × Value → H} {P : Program} {w : World} {base : Nat} {sp : Nat → Bool} {held : Bool} {fuel : Nat} {t e : TypeId} {n : Nat} {cs : List Value} {bss : List (List UInt8)} {p : List MemPlace}
    (ht : P.underlying t = some (.array n e)) (he : P.underlying e = some .string) (hce : P.cellsOf e = 1)
    (h : DataW.trod enc P w base sp held fuel t cs = some (.agg (bss.map fun b => .lit (.string b)), p)) (i : Nat) (hi : i < n) :
    ∃ s : ByteArray, cs[i]? = some (.string s) ∧ bss[i]? = some s.data.toList := by
  obtain ⟨xs, m, rfl, hx, hl, hn, hel⟩ := DataW.trod_array ht h
  have h1 := hel i hi
  rw [hce, Nat.mul_one] at h1
  have hx1 : xs[i]? = some xs[i] := List.getElem?_eq_getElem (by omega)
  rw [hx1] at h1
  obtain ⟨s, e1, e2, _⟩ := DataW.trod_string he h1
  refine ⟨s, ?_, ?_⟩
  · have := congrArg (·[0]?) e1
    simpa [List.getElem?_take, List.getElem?_drop] using this
  · have h2 : bss.map (fun b => (DataW.lit (.string b) : DataW H)) = xs.map (·.1) := by
      have := congrArg Prod.fst hx
      simpa using this
    have h3 := congrArg (·[i]?) h2
    simp only [List.getElem?_map, hx1, e2, Option.map_some] at h3
    obtain ⟨b, hb, hb2⟩ := Option.map_eq_some_iff.1 h3
    rw [hb]
    injection hb2 with hb3
    injection hb3 with hb4
    rw [hb4]

theorem gNames : Tryd.prog.globalNamed "palings/word.names" = some 0 := by kernel_rfl
theorem tNames : (Tryd.prog.globals[0]?).map (·.type) = some 32 := by kernel_rfl
theorem cells9 : Tryd.prog.cellsOf 9 = 1 := by kernel_rfl
def texts : List (List UInt8) := [[97, 100, 100], [115, 117, 98], [109, 117, 108], [100, 105, 118], [109, 111, 100], [97, 110, 100], [111, 114], [120, 111, 114], [115, 104, 108], [115, 104, 114], [101, 113], [110, 101], [108, 116], [108, 101], [98, 101, 108, 111, 119]]

theorem of_laid {W : World} (h : laidMetH Tryd.prog [("palings/word.names", Rows.laid_palings_word_names)] W) (i : Nat) (hi : i < 15) (b : List UInt8) (hb : texts[i]? = some b) :
    W.cell? ⟨0, i, none⟩ = some (.string ⟨b.toArray⟩) := by
  rw [MakeChecks.laidMetH_plain _ _ _ (by kernel_rfl)] at h
  obtain ⟨ps, ⟨g0, t0, cs0, f0, p0, q0, hg0, ht0, hv0, hd0, _, _⟩, _, _⟩ := h
  obtain rfl := Option.some.inj (gNames.symm.trans hg0)
  obtain rfl := Option.some.inj (tNames.symm.trans ht0)
  obtain ⟨s, e1, e2⟩ := cells_of_strs (bss := texts) Tryd.underlying32 Tryd.underlying9 cells9 hd0 i hi
  have := World.var?_cell hg0 hv0 i
  rw [hb] at e2
  obtain rfl := Option.some.inj e2
  have e3 : cs0[i]? = some (.string s) := by simpa using e1
  rw [e3] at this
  simpa using this

theorem door_met (os : Os) (args : Array Value) : laidMetH Tryd.prog [("palings/word.names", Rows.laid_palings_word_names)] ((World.doorLaid Tryd.prog 400 os).forCall (fun _ _ => 0) ⟨#[], args, []⟩).memory :=
  laidMetH_of_parts3 (fuel := 8) (laidMet_of_run' 8 (by kernel_rfl) (by kernel_rfl)) (by kernel_rfl) (by kernel_rfl)

theorem and_comm' (a b : Int) : bits .and .i64 a b = bits .and .i64 b a := by
  show IntKind.i64.wrap ((BitVec.ofInt 64 a &&& BitVec.ofInt 64 b).toNat : Int) = IntKind.i64.wrap ((BitVec.ofInt 64 b &&& BitVec.ofInt 64 a).toNat : Int)
  rw [BitVec.and_comm]
theorem or_comm' (a b : Int) : bits .or .i64 a b = bits .or .i64 b a := by
  show IntKind.i64.wrap ((BitVec.ofInt 64 a ||| BitVec.ofInt 64 b).toNat : Int) = IntKind.i64.wrap ((BitVec.ofInt 64 b ||| BitVec.ofInt 64 a).toNat : Int)
  rw [BitVec.or_comm]
theorem xor_comm' (a b : Int) : bits .xor .i64 a b = bits .xor .i64 b a := by
  show IntKind.i64.wrap ((BitVec.ofInt 64 a ^^^ BitVec.ofInt 64 b).toNat : Int) = IntKind.i64.wrap ((BitVec.ofInt 64 b ^^^ BitVec.ofInt 64 a).toNat : Int)
  rw [BitVec.xor_comm]
theorem eq_comm' (a b : Int) : (a == b) = (b == a) := by
  by_cases h : a = b
  · subst h; rfl
  · have h1 : (a == b) = false := by simpa using h
    have h2 : (b == a) = false := by simpa using fun e : b = a => h e.symm
    rw [h1, h2]

theorem all (o a b : Int) (w : World) (hc : ∀ (i : Nat), i < 15 → ∀ b, texts[i]? = some b → w.cell? ⟨0, i, none⟩ = some (.string ⟨b.toArray⟩)) :
    Calls Tryd.prog 3 #[.int .i64 o, .int .i64 a, .int .i64 b] w fun e w' => e = .returned (.bool true) ∧ Grown w w' := by
  by_cases h1 : o < 1
  · exact kind_lo o h1 a b w
  by_cases h2 : 15 < o
  · exact kind_hi o h2 a b w
  have h3 : o = 1 ∨ o = 2 ∨ o = 3 ∨ o = 4 ∨ o = 5 ∨ o = 6 ∨ o = 7 ∨ o = 8 ∨ o = 9 ∨ o = 10 ∨ o = 11 ∨ o = 12 ∨ o = 13 ∨ o = 14 ∨ o = 15 := by omega
  clear h1 h2
  rcases h3 with rfl | rfl | rfl | rfl | rfl | rfl | rfl | rfl | rfl | rfl | rfl | rfl | rfl | rfl | rfl
  · exact kind_1_tt a b _ _ w (hc 0 (by decide) _ rfl) (by rw [Int.add_comm]; simp) (fun w => do_add a b w) (fun w => do_add b a w)
  · exact kind_2_tt a b _ _ w (hc 1 (by decide) _ rfl) (fun w => do_sub a b w) (fun w => do_sub b a w)
  · exact kind_3_tt a b _ _ w (hc 2 (by decide) _ rfl) (by rw [Int.mul_comm]; simp) (fun w => do_mul a b w) (fun w => do_mul b a w)
  · by_cases ha : a = 0 <;> by_cases hb : b = 0
    · subst ha hb
      exact kind_4_ff 0 0 _ _ w (hc 3 (by decide) _ rfl) (by decide) (fun w => do_div_zero 0 w) (fun w => do_div_zero 0 w)
    · subst ha
      exact kind_4_tf 0 b _ _ w (hc 3 (by decide) _ rfl) (by simpa using hb) (fun w => do_div 0 b (by simpa using hb) w) (fun w => do_div_zero b w)
    · subst hb
      exact kind_4_ft a 0 _ _ w (hc 3 (by decide) _ rfl) (by decide) (fun w => do_div_zero a w) (fun w => do_div 0 a (by simpa using ha) w)
    · exact kind_4_tt a b _ _ w (hc 3 (by decide) _ rfl) (by simpa using hb) (fun w => do_div a b (by simpa using hb) w) (fun w => do_div b a (by simpa using ha) w)
  · by_cases ha : a = 0 <;> by_cases hb : b = 0
    · subst ha hb
      exact kind_5_ff 0 0 _ _ w (hc 4 (by decide) _ rfl) (by decide) (fun w => do_mod_zero 0 w) (fun w => do_mod_zero 0 w)
    · subst ha
      exact kind_5_tf 0 b _ _ w (hc 4 (by decide) _ rfl) (by simpa using hb) (fun w => do_mod 0 b (by simpa using hb) w) (fun w => do_mod_zero b w)
    · subst hb
      exact kind_5_ft a 0 _ _ w (hc 4 (by decide) _ rfl) (by decide) (fun w => do_mod_zero a w) (fun w => do_mod 0 a (by simpa using ha) w)
    · exact kind_5_tt a b _ _ w (hc 4 (by decide) _ rfl) (by simpa using hb) (fun w => do_mod a b (by simpa using hb) w) (fun w => do_mod b a (by simpa using ha) w)
  · exact kind_6_tt a b _ _ w (hc 5 (by decide) _ rfl) (by rw [and_comm']; simp) (fun w => do_and a b w) (fun w => do_and b a w)
  · exact kind_7_tt a b _ _ w (hc 6 (by decide) _ rfl) (by rw [or_comm']; simp) (fun w => do_or a b w) (fun w => do_or b a w)
  · exact kind_8_tt a b _ _ w (hc 7 (by decide) _ rfl) (by rw [xor_comm']; simp) (fun w => do_xor a b w) (fun w => do_xor b a w)
  · exact kind_9_tt a b _ _ w (hc 8 (by decide) _ rfl) (fun w => do_shl a b w) (fun w => do_shl b a w)
  · exact kind_10_tt a b _ _ w (hc 9 (by decide) _ rfl) (fun w => do_shr a b w) (fun w => do_shr b a w)
  · exact kind_11_tt a b _ _ w (hc 10 (by decide) _ rfl) (by rw [eq_comm' a b, beq_self_eq_true]) (fun w => do_eq a b w) (fun w => do_eq b a w)
  · exact kind_12_tt a b _ _ w (hc 11 (by decide) _ rfl) (by rw [show (a != b) = (b != a) by unfold bne; rw [eq_comm' a b], beq_self_eq_true]) (fun w => do_ne a b w) (fun w => do_ne b a w)
  · exact kind_13_tt a b _ _ w (hc 12 (by decide) _ rfl) (fun w => do_lt a b w) (fun w => do_lt b a w)
  · exact kind_14_tt a b _ _ w (hc 13 (by decide) _ rfl) (fun w => do_le a b w) (fun w => do_le b a w)
  · exact kind_15_tt a b _ _ w (hc 14 (by decide) _ rfl) (fun w => do_below a b w) (fun w => do_below b a w)

theorem own : ownKnob Tryd.prog.godebug = none := by kernel_rfl

set_option maxRecDepth 100000 in
theorem lifted (os : Os) (started : os.Started) (H : Type) (enc : TypeId × Value → H) :
    ReturnsInHanded {} Tryd.checked os 3 .any (fun w args => (Rows.wordKindsSpec.pre enc Tryd.prog Tryd.f3 [] false w args ∧ laidMetH Tryd.prog [("palings/word.names", Rows.laid_palings_word_names)] w) ∧ sizedMet enc Tryd.prog Tryd.f3 (OpenSpec.ofChange Rows.wordKindsSpec) false w args)
      (Rows.wordKindsSpec.post enc Tryd.prog Tryd.f3 false true false false) := by
  refine returnsInHanded_of_change_and (C := Tryd.checked) (X := fun w _ => laidMetH Tryd.prog [("palings/word.names", Rows.laid_palings_word_names)] w) (fun _ _ _ hh h => h.of_heap hh) own started (by kernel_rfl) Tryd.func3
    (ChangeSpec.witness_shaped (enc := enc) (C := Tryd.checked) (os := os) (X := fun w _ => laidMetH Tryd.prog [("palings/word.names", Rows.laid_palings_word_names)] w) false (World.doorLaid Tryd.prog 400 os) #[.int .i64 0, .int .i64 0, .int .i64 0] 8 rfl (World.shaped_of_RefB (by kernel_rfl) (by kernel_rfl)) (by kernel_rfl) (by kernel_rfl) (by kernel_rfl) (door_met os _)) ?_
  intro W base args ds gs before hval0 hW _ _ hL _
  have hval : ∀ (j : Nat) t v, Tryd.f3.params[j]? = some t → args[j]? = some v → Value.okWide Tryd.prog W .any base t v := hval0
  have hW' := hW
  obtain ⟨p, q, hA0, hV, rfl, hfz, hnd⟩ := hW
  have hA : DataW.TrodAll enc Tryd.prog W 0 (fun _ => true) true Tryd.f3.params.toList args.toList ds p := hA0
  rw [Tryd.params3] at hA hval
  obtain ⟨v0, vs0, d0, ds0, p0, q0, hargs, rfl, rfl, h0, r0⟩ := trodAll_cons hA
  obtain ⟨v1, vs1, d1, ds1, p1, q1, rfl, rfl, rfl, h1, r1⟩ := trodAll_cons r0
  obtain ⟨v2, vs2, d2, ds2, p2, q2, rfl, rfl, rfl, h2, r2⟩ := trodAll_cons r1
  obtain ⟨rfl, rfl, rfl⟩ := trodAll_nil r2
  obtain rfl : args = #[v0, v1, v2] := by cases args; simp_all
  obtain ⟨rfl, rfl⟩ := trodVars_none hV
  obtain ⟨a0, rfl, rfl, rfl, w0⟩ := open_int Tryd.underlying3 (hval 0 3 v0 rfl rfl) h0
  obtain ⟨a1, rfl, rfl, rfl, w1⟩ := open_int Tryd.underlying2 (hval 1 2 v1 rfl rfl) h1
  obtain ⟨a2, rfl, rfl, rfl, w2⟩ := open_int Tryd.underlying2 (hval 2 2 v2 rfl rfl) h2
  clear hA0 hval0
  simp only [List.append_nil] at hW'
  refine (all a0 a1 a2 W (fun i hi b hb => of_laid hL i hi b hb)).mono fun e W' ⟨he, hg⟩ => ?_
  subst he
  exact ⟨_, rfl, post_of_same (pa := []) (pv := []) hW' (fun _ _ _ => (trodAll_cons_mk (shut_bool Tryd.underlying4 _) trodAll_mk0)) (fun sp _ => (trodAll_cons_mk (shut_int Tryd.underlying3 w0) (trodAll_cons_mk (shut_int Tryd.underlying2 w1) (trodAll_cons_mk (shut_int Tryd.underlying2 w2) trodAll_mk0)))) (fun _ _ => rfl) rfl
    (hg.frame _) hg.2.1 (ok_one (by kernel_rfl) rfl (okWide_bool_mk Tryd.underlying4 _))⟩

theorem row_holds : Rows.WordKindsSaid :=
  OpenClaim.holds_of_wide 3 Tryd.f3 rfl rfl rfl rfl rfl rfl rfl ⟨rfl, rfl, rfl, rfl, rfl⟩ rfl rfl rfl rfl rfl (by kernel_rfl) Tryd.func3 (by kernel_rfl)
    (of_decide_eq_true (by kernel_rfl)) (by unfold Func.isWrapper; first | (rw [if_pos (by decide +kernel)]; kernel_rfl) | (rw [if_neg (by decide +kernel)]; exact ⟨rfl, rfl⟩))
    (fun os started H enc _ => lifted os started H enc)

/-- THE TIED CARD. -/
theorem proved : Rows.WordKindsCardSaid :=
  Claim7.holds_tied_plain_at .later [] [.data] true (true, "72d70e2c21b9d91b3f3947a1fe345d8852db7aef59dbd5e6f7c6b0eac3cf314d") false
    row_holds (fun _ h => by cases h) (by kernel_rfl) (fun _ h => by cases h) wordKinds_row_tie rfl ⟨rfl, rfl⟩ (by kernel_rfl) rfl
    (fun f fn hf hfn => by
      obtain rfl : f = 3 := Option.some.inj ((show Tryd.prog.funcNamed "palings/palingslaw01.WordKinds" = some 3 by kernel_rfl).symm.trans hf) |>.symm
      obtain rfl : fn = Tryd.f3 := (Option.some.inj (Tryd.func3.symm.trans hfn)).symm
      exact ⟨by kernel_rfl, fun j t ht => by
        rw [Tryd.params3] at ht
        have hm : t ∈ [3, 2, 2] := by simpa using Array.mem_of_getElem? ht
        have hall : ([3, 2, 2].all fun u => !Tryd.prog.wantsStandIn u) = true := by kernel_rfl
        exact (show Tryd.prog.wantsStandIn t = false by simpa using List.all_eq_true.1 hall t hm)⟩)
    (by kernel_rfl)
#print axioms proved
end Go.Proofs.YtjpejdjiecfbnaaDoor.wordKinds
