/-
  CheckFirst holds for all its inputs: of two faults the first one in the text is told, function by function, at its place. Conditions: the tables of the package start as the program's text lays them (the tied card).
-/
import Derived.Test.YtffgioifjdpajaaGreatDoorTie
import Derived.Test.YtffgioifjdpajaaGreatDoorCards
import Derived.Test.YtffgioifjdpajaaGreatDoorFirstA
import Derived.Test.YtffgioifjdpajaaGreatDoorMask
import Derived.Test.YtffgioifjdpajaaGreatDoorLd
import Derived.ProofKit
import Derived.LaidMore
import Derived.OpenShut
import Derived.ShutString
import Derived.SliceStrings
import Derived.Stop.Joined
import Derived.SevenTiedAt
namespace Go.Proofs.YtffgioifjdpajaaGreatDoor.checkFirst
open Go.ChangeShapes Go.WideShapes Go.ChangeAt Go.WideMaps Go.WideElems Go.RowKit
open Go.ChangeMaps (open_string shut_string)
set_option linter.unusedVariables false

theorem cat_one (j : Nat) : (⟨(List.replicate j 32).toArray⟩ : ByteArray) ++ ⟨#[32]⟩ = ⟨(List.replicate (j + 1) 32).toArray⟩ := by
  apply ByteArray.ext
  rw [ByteArray.data_append]
  apply Array.toList_inj.1
  simp [List.replicate_succ']
set_option maxHeartbeats 4000000 in
set_option maxRecDepth 100000 in
theorem first_core (a b c : Int) (k h p : Nat) (hk : k < 7) (hh : h < 7) (hp : p < 16) (hka : wrap64 ((IntKind.u64.wrap a).tmod 7) = (k : Int)) (hhb : wrap64 ((IntKind.u64.wrap b).tmod 7) = (h : Int)) (hpb : bits .and .i64 c 15 = (p : Int)) (w : World) (hg : Ground w) :
    Calls Tryz.prog 9 #[.int .i64 a, .int .i64 b, .int .i64 c] w fun e w' => e = .returned (.bool true) ∧ Below w.heap.size w w' := by
  obtain ⟨hf, ht⟩ := fr_at hk hh hp
  have HG := Lib.hid hg; have HPB := Lib.hid hpb; have HKA := Lib.hid hka; have HHB := Lib.hid hhb; have HF := Lib.hid hf; have HT := Lib.hid ht
  have HD := Lib.hid (show frT k h p = (⟨#[102, 117, 110, 99, 32, 102, 40, 41, 32, 123, 10]⟩ : ByteArray) ++ ⟨(List.replicate p 32).toArray⟩ ++ ⟨(frText k).toArray⟩ ++ (⟨#[10, 125, 10, 102, 117, 110, 99, 32, 109, 97, 105, 110, 40, 41, 32, 123, 10]⟩ : ByteArray) ++ ⟨(List.replicate p 32).toArray⟩ ++ ⟨(frText h).toArray⟩ ++ (⟨#[10, 125]⟩ : ByteArray) from rfl)
  clear hg hpb hka hhb hf ht
  go_enter Tryz.func9, Tryz.ntmps9
  go_wp2_with (fail)
  refine (head_any _ HG.out).mono ?_
  rintro e w1 ⟨rfl, hg1⟩
  have HG1 := Lib.hid hg1
  clear hg1
  go_upto_region 4 with (fail)
  change Code.wp _ _ _ _ (w1.alloc (.cells frCells 65))
  obtain ⟨w2, hw2⟩ : ∃ w2, w2 = w1.alloc (.cells frCells 65) := ⟨_, rfl⟩
  rw [← hw2]
  obtain ⟨f0, f1, f2, f3, f4, f5, f6⟩ := frCells_at k hk
  obtain ⟨g0, g1, g2, g3, g4, g5, g6⟩ := frCells_at h hh
  have hb : w2.heap[w1.heap.size]? = some (.cells frCells 65 (0, 0)) := by rw [hw2]; exact alloc_at _ _ _ rfl
  have c0 : w2.cell? ⟨w1.heap.size, k * 3, none⟩ = some (.string ⟨(frText k).toArray⟩) := by rw [Lib.cell_of_heap hb, Nat.mul_comm]; exact f0
  have c1 : w2.cell? ⟨w1.heap.size, k * 3 + 1, none⟩ = some (.int .i64 (frNo k)) := by rw [Lib.cell_of_heap hb, Nat.mul_comm]; exact f1
  have c2 : w2.cell? ⟨w1.heap.size, k * 3 + 2, none⟩ = some (.int .i64 (frCol k)) := by rw [Lib.cell_of_heap hb, Nat.mul_comm]; exact f2
  have d0 : w2.cell? ⟨w1.heap.size, h * 3, none⟩ = some (.string ⟨(frText h).toArray⟩) := by rw [Lib.cell_of_heap hb, Nat.mul_comm]; exact g0
  have d1 : w2.cell? ⟨w1.heap.size, h * 3 + 1, none⟩ = some (.int .i64 (frNo h)) := by rw [Lib.cell_of_heap hb, Nat.mul_comm]; exact g1
  have d2 : w2.cell? ⟨w1.heap.size, h * 3 + 2, none⟩ = some (.int .i64 (frCol h)) := by rw [Lib.cell_of_heap hb, Nat.mul_comm]; exact g2
  have hlt : w1.heap.size < w2.heap.size := by rw [hw2]; simp
  have HG2 := Lib.hid (grown_trans HG1.out (show w1.grownBy w2 none by rw [hw2]; exact grown_alloc _ _))
  have F6 := Lib.hid f6; have G6 := Lib.hid g6
  clear hb hw2 f0 f1 f2 g0 g1 g2 f6 g6
  have hka := HKA.out
  have hhb := HHB.out
  go_upto_region 8 with (fail)
  obtain ⟨w3, hw3⟩ : ∃ w3, w3 = (w2.alloc (.cells #[.string ⟨(frText k).toArray⟩, .int .i64 (frNo k), .int .i64 (frCol k)] 65)).alloc (.cells #[.string ⟨(frText h).toArray⟩, .int .i64 (frNo h), .int .i64 (frCol h)] 65) := ⟨_, rfl⟩
  rw [← hw3]
  have hk3 : w3.heap[w2.heap.size]? = some (.cells #[.string ⟨(frText k).toArray⟩, .int .i64 (frNo k), .int .i64 (frCol k)] 65 (0, 0)) := by rw [hw3]; exact alloc_past _ _ _ _ (by simp) (alloc_at _ _ _ rfl)
  have hh3 : w3.heap[w2.heap.size + 1]? = some (.cells #[.string ⟨(frText h).toArray⟩, .int .i64 (frNo h), .int .i64 (frCol h)] 65 (0, 0)) := by rw [hw3]; exact alloc_at _ _ _ (by simp)
  have HG3 := Lib.hid (grown_trans HG2.out (show w2.grownBy w3 none by rw [hw3]; exact grown_trans (grown_alloc _ _) (grown_alloc _ _)))
  have HK3 := Lib.hid hk3; have HH3 := Lib.hid hh3
  clear hw3 hk3 hh3 c0 c1 c2 d0 d1 d2 hka hhb
  go_loop [10, 11] (fun t i => ∃ j : Nat, j ≤ p ∧ i = .int .i64 j ∧ t = .string ⟨(List.replicate j 32).toArray⟩) (fun _ i => p - (intOf i).toNat)
  case atStart => exact ⟨0, Nat.zero_le _, rfl, rfl⟩
  case round =>
    obtain ⟨j, hj, rfl, rfl⟩ := hrel
    have hbl : (⟨(List.replicate j 32).toArray⟩ : ByteArray).size = j := by simp [ByteArray.size]
    by_cases hlt2 : j < p
    · have hcat : (⟨(List.replicate j 32).toArray⟩ : ByteArray) ++ ⟨#[32]⟩ = ⟨(List.replicate (j + 1) 32).toArray⟩ := cat_one j
      have HCAT := Lib.hid hcat
      clear hcat
      generalize (⟨(List.replicate j 32).toArray⟩ : ByteArray) = S at hbl HCAT
      have hS : S.size ≤ 16 := by omega
      clear hbl
      have hpb := HPB.out
      go_wp2_with (fail)
      go_round
      case rel => exact ⟨j + 1, by omega, by go_num, by rw [HCAT.out]⟩
      case measure => simp [intOf]; omega
    · obtain rfl : p = j := by omega
      have hpb := HPB.out
      clear hlt2
      obtain ⟨⟨k0, k1, k2⟩, _, _, _⟩ := three HK3.out
      obtain ⟨⟨h0, h1, h2⟩, _, _, _⟩ := three HH3.out
      generalize hS : (⟨(List.replicate p 32).toArray⟩ : ByteArray) = S at *
      generalize hT : (⟨(frText k).toArray⟩ : ByteArray) = T at *
      generalize hU : (⟨(frText h).toArray⟩ : ByteArray) = U at *
      have hSs : S.size ≤ 16 := by omega
      have hTs : T.size ≤ 40 := by rw [← hT]; simpa [ByteArray.size] using f3
      have hUs : U.size ≤ 40 := by rw [← hU]; simpa [ByteArray.size] using g3
      clear hS hT hU hbl
      have hl3 : w2.heap.size + 1 < w3.heap.size := (Array.getElem?_eq_some_iff.1 HH3.out).1
      have hl3' : w2.heap.size < w3.heap.size := by omega
      go_wp2_with (fail)
      refine (text_fault _ (by
        simp only [ByteArray.size_append]
        have e0 : (⟨#[102, 117, 110, 99, 32, 102, 40, 41, 32, 123, 10]⟩ : ByteArray).size = 11 := rfl
        have e1 : (⟨#[10, 125, 10, 102, 117, 110, 99, 32, 109, 97, 105, 110, 40, 41, 32, 123, 10]⟩ : ByteArray).size = 17 := rfl
        have e2 : (⟨#[10, 125]⟩ : ByteArray).size = 2 := rfl
        omega) (frT k h p).data.toList (by rw [HD.out]) HF.out _ (HG.out.more HG3.out)).mono ?_
      rintro e w4 ⟨c1, c2, c3, d1, d2, d3, n1, n2, rfl, hg4⟩
      have HG4 := Lib.hid (grown_trans HG3.out hg4)
      have HK4 := Lib.hid ((hg4.block _ hl3' (by simp)).trans HK3.out)
      have HH4 := Lib.hid ((hg4.block _ hl3 (by simp)).trans HH3.out)
      have hlt4 := (Array.getElem?_eq_some_iff.1 HK4.out).1
      have hlt4' := (Array.getElem?_eq_some_iff.1 HH4.out).1
      rw [HT.out]
      clear hg4 HD HF hSs hTs hUs k0 k1 k2 h0 h1 h2 hpb
      by_cases hn : frNo k = 0
      · by_cases hm : frNo h = 0
        · have HX := Lib.hid (show frWant k h p = (0, 0, 0) by unfold frWant; rw [if_neg (by simpa using hn), if_neg (by simpa using hm)])
          rw [HX.out]
          dsimp only
          have q1 : (frNo k != 0) = false := by simpa using hn
          have q2 : (frNo h != 0) = false := by simpa using hm
          clear hn hm
          go_upto_region 12 with (fail)
          have hw5 : w4.grownBy (((w4.alloc (.cells #[.slice c1 c2 c3, .slice d1 d2 d3] 25)).alloc (.cells #[.map n1, .map n2] 30)).alloc (.cells #[.int .i64 0, .int .i64 0, .int .i64 0] 35)) none := grown_trans (grown_trans (grown_alloc _ _) (grown_alloc _ _)) (grown_alloc _ _)
          have hb5 : (((w4.alloc (.cells #[.slice c1 c2 c3, .slice d1 d2 d3] 25)).alloc (.cells #[.map n1, .map n2] 30)).alloc (.cells #[.int .i64 0, .int .i64 0, .int .i64 0] 35)).heap[w4.heap.size + 1 + 1]? = some (.cells #[.int .i64 0, .int .i64 0, .int .i64 0] 35 (0, 0)) := alloc_at _ _ _ (by simp)
          have hb6 := (hw5.block _ hlt4 (by simp)).trans HK4.out
          have hb7 := (hw5.block _ hlt4' (by simp)).trans HH4.out
          generalize (((w4.alloc (.cells #[.slice c1 c2 c3, .slice d1 d2 d3] 25)).alloc (.cells #[.map n1, .map n2] 30)).alloc (.cells #[.int .i64 0, .int .i64 0, .int .i64 0] 35)) = w5 at *
          have HG5 := Lib.hid (grown_trans HG4.out hw5)
          obtain ⟨⟨s0, s1, s2⟩, _, _, _⟩ := three hb5
          obtain ⟨⟨k0, k1, k2⟩, _, _, _⟩ := three hb6
          obtain ⟨⟨h0, h1, h2⟩, _, _, _⟩ := three hb7
          have hpb := HPB.out
          clear hw5 hb5 hb6 hb7
          go_wp2_with (fail)
          go_ret
          exact ⟨rfl, below_grown HG5.out (Nat.le_refl _)⟩
        · have HX := Lib.hid (show frWant k h p = (frNo h, 5, frCol h + p) by unfold frWant; rw [if_neg (by simpa using hn), if_pos hm])
          rw [HX.out]
          dsimp only
          have q1 : (frNo k != 0) = false := by simpa using hn
          have q2 : (frNo h != 0) = true := by simpa using hm
          clear hn hm
          go_upto_region 12 with (fail)
          have hw5 : w4.grownBy (((w4.alloc (.cells #[.slice c1 c2 c3, .slice d1 d2 d3] 25)).alloc (.cells #[.map n1, .map n2] 30)).alloc (.cells #[.int .i64 (frNo h), .int .i64 5, .int .i64 (frCol h + p)] 35)) none := grown_trans (grown_trans (grown_alloc _ _) (grown_alloc _ _)) (grown_alloc _ _)
          have hb5 : (((w4.alloc (.cells #[.slice c1 c2 c3, .slice d1 d2 d3] 25)).alloc (.cells #[.map n1, .map n2] 30)).alloc (.cells #[.int .i64 (frNo h), .int .i64 5, .int .i64 (frCol h + p)] 35)).heap[w4.heap.size + 1 + 1]? = some (.cells #[.int .i64 (frNo h), .int .i64 5, .int .i64 (frCol h + p)] 35 (0, 0)) := alloc_at _ _ _ (by simp)
          have hb6 := (hw5.block _ hlt4 (by simp)).trans HK4.out
          have hb7 := (hw5.block _ hlt4' (by simp)).trans HH4.out
          generalize (((w4.alloc (.cells #[.slice c1 c2 c3, .slice d1 d2 d3] 25)).alloc (.cells #[.map n1, .map n2] 30)).alloc (.cells #[.int .i64 (frNo h), .int .i64 5, .int .i64 (frCol h + p)] 35)) = w5 at *
          have HG5 := Lib.hid (grown_trans HG4.out hw5)
          obtain ⟨⟨s0, s1, s2⟩, _, _, _⟩ := three hb5
          obtain ⟨⟨k0, k1, k2⟩, _, _, _⟩ := three hb6
          obtain ⟨⟨h0, h1, h2⟩, _, _, _⟩ := three hb7
          have hpb := HPB.out
          clear hw5 hb5 hb6 hb7
          go_wp2_with (fail)
          go_ret
          exact ⟨rfl, below_grown HG5.out (Nat.le_refl _)⟩
      · have HX := Lib.hid (show frWant k h p = (frNo k, 2, frCol k + p) by unfold frWant; rw [if_pos hn])
        rw [HX.out]
        dsimp only
        have q1 : (frNo k != 0) = true := by simpa using hn
        clear hn
        go_upto_region 12 with (fail)
        have hw5 : w4.grownBy (((w4.alloc (.cells #[.slice c1 c2 c3, .slice d1 d2 d3] 25)).alloc (.cells #[.map n1, .map n2] 30)).alloc (.cells #[.int .i64 (frNo k), .int .i64 2, .int .i64 (frCol k + p)] 35)) none := grown_trans (grown_trans (grown_alloc _ _) (grown_alloc _ _)) (grown_alloc _ _)
        have hb5 : (((w4.alloc (.cells #[.slice c1 c2 c3, .slice d1 d2 d3] 25)).alloc (.cells #[.map n1, .map n2] 30)).alloc (.cells #[.int .i64 (frNo k), .int .i64 2, .int .i64 (frCol k + p)] 35)).heap[w4.heap.size + 1 + 1]? = some (.cells #[.int .i64 (frNo k), .int .i64 2, .int .i64 (frCol k + p)] 35 (0, 0)) := alloc_at _ _ _ (by simp)
        have hb6 := (hw5.block _ hlt4 (by simp)).trans HK4.out
        have hb7 := (hw5.block _ hlt4' (by simp)).trans HH4.out
        generalize (((w4.alloc (.cells #[.slice c1 c2 c3, .slice d1 d2 d3] 25)).alloc (.cells #[.map n1, .map n2] 30)).alloc (.cells #[.int .i64 (frNo k), .int .i64 2, .int .i64 (frCol k + p)] 35)) = w5 at *
        have HG5 := Lib.hid (grown_trans HG4.out hw5)
        obtain ⟨⟨s0, s1, s2⟩, _, _, _⟩ := three hb5
        obtain ⟨⟨k0, k1, k2⟩, _, _, _⟩ := three hb6
        obtain ⟨⟨h0, h1, h2⟩, _, _, _⟩ := three hb7
        have hpb := HPB.out
        clear hw5 hb5 hb6 hb7
        go_wp2_with (fail)
        go_ret
        exact ⟨rfl, below_grown HG5.out (Nat.le_refl _)⟩
theorem all (a : Int) (ha : InI64 a) (b : Int) (hb : InI64 b) (c : Int) (hc : InI64 c) (w : World) (hg : Ground w) :
    Calls Tryz.prog 9 #[.int .i64 a, .int .i64 b, .int .i64 c] w fun e w' => e = .returned (.bool true) ∧ Below w.heap.size w w' :=
  first_core a b c _ _ _ (by have := Int.emod_lt_of_pos (a % 18446744073709551616) (show (0 : Int) < (7 : Nat) by decide); omega) (by have := Int.emod_lt_of_pos (b % 18446744073709551616) (show (0 : Int) < (7 : Nat) by decide); omega) (by omega) (rem_at a 7 (by decide) (by decide)) (rem_at b 7 (by decide) (by decide)) (and15 c) w hg


theorem door_met (os : Os) (args : Array Value) : laidMetH Tryz.prog [("palings/ast.signs", Rows.laid_palings_ast_signs)] ((World.doorLaid Tryz.prog 4000 os).forCall (fun _ _ => 0) ⟨#[], args, []⟩).memory :=
  laidMetH_of_parts3 (fuel := 8) (laidMet_of_run' 8 (by kernel_rfl) (by kernel_rfl)) (by kernel_rfl) (by kernel_rfl)
theorem own : ownKnob Tryz.prog.godebug = none := by kernel_rfl

set_option maxHeartbeats 2000000 in
set_option maxRecDepth 100000 in
theorem lifted (os : Os) (started : os.Started) (H : Type) (enc : TypeId × Value → H) :
    ReturnsInHanded {} Tryz.checked os 9 .any (fun w args => (Rows.checkFirstSpec.pre enc Tryz.prog Tryz.f9 [] false w args ∧ laidMetH Tryz.prog [("palings/ast.signs", Rows.laid_palings_ast_signs)] w) ∧ sizedMet enc Tryz.prog Tryz.f9 (OpenSpec.ofChange Rows.checkFirstSpec) false w args)
      (Rows.checkFirstSpec.post enc Tryz.prog Tryz.f9 false true false false) := by
  refine returnsInHanded_of_change_and (C := Tryz.checked) (X := fun w _ => laidMetH Tryz.prog [("palings/ast.signs", Rows.laid_palings_ast_signs)] w) (fun _ _ _ hh h => h.of_heap hh) own started (by kernel_rfl) Tryz.func9
    (ChangeSpec.witness_shaped (enc := enc) (C := Tryz.checked) (os := os) (X := fun w _ => laidMetH Tryz.prog [("palings/ast.signs", Rows.laid_palings_ast_signs)] w) false (World.doorLaid Tryz.prog 4000 os) #[.int .i64 0, .int .i64 0, .int .i64 0] 8 rfl (World.shaped_of_RefB (by kernel_rfl) (by kernel_rfl)) (by kernel_rfl) (by kernel_rfl) (by kernel_rfl) (door_met os _)) ?_
  intro W base args ds gs before hval0 hW _ _ hL _
  have hval : ∀ (j : Nat) t v, Tryz.f9.params[j]? = some t → args[j]? = some v → Value.okWide Tryz.prog W .any base t v := hval0
  have hW' := hW
  obtain ⟨p, q, hA0, hV, rfl, hfz, hnd⟩ := hW
  have hA : DataW.TrodAll enc Tryz.prog W 0 (fun _ => true) true Tryz.f9.params.toList args.toList ds p := hA0
  rw [Tryz.params9] at hA hval
  obtain ⟨v0, vs0, d0, ds0, p0, q0, hargs, rfl, rfl, h0, r0⟩ := trodAll_cons hA
  obtain ⟨v1, vs1, d1, ds1, p1, q1, rfl, rfl, rfl, h1, r1⟩ := trodAll_cons r0
  obtain ⟨v2, vs2, d2, ds2, p2, q2, rfl, rfl, rfl, h2, r2⟩ := trodAll_cons r1
  obtain ⟨rfl, rfl, rfl⟩ := trodAll_nil r2
  obtain rfl : args = #[v0, v1, v2] := by cases args; simp_all
  obtain ⟨rfl, rfl⟩ := trodVars_none hV
  obtain ⟨a0, rfl, rfl, rfl, w0⟩ := open_int Tryz.underlying3 (hval 0 3 v0 rfl rfl) h0
  obtain ⟨a1, rfl, rfl, rfl, w1⟩ := open_int Tryz.underlying3 (hval 1 3 v1 rfl rfl) h1
  obtain ⟨a2, rfl, rfl, rfl, w2⟩ := open_int Tryz.underlying3 (hval 2 3 v2 rfl rfl) h2
  clear hA0 hval0
  simp only [List.append_nil] at hW'
  refine (all a0 (bounds_i64 w0) a1 (bounds_i64 w1) a2 (bounds_i64 w2) W (ground_of (by kernel_rfl) (by simp) hL)).mono fun e W' ⟨he, hg⟩ => ?_
  subst he
  exact ⟨_, rfl, post_new hW' (fun _ _ _ => (trodAll_cons_mk (shut_bool Tryz.underlying4 _) trodAll_mk0)) (fun sp => (trodAll_cons_mk (shut_int Tryz.underlying3 w0) (trodAll_cons_mk (shut_int Tryz.underlying3 w1) (trodAll_cons_mk (shut_int Tryz.underlying3 w2) trodAll_mk0)))) (fun _ => rfl) hg (ok_one (by kernel_rfl) rfl (okWide_bool_mk Tryz.underlying4 _))⟩

theorem row_holds : Rows.CheckFirstSaid :=
  OpenClaim.holds_of_wide 9 Tryz.f9 rfl rfl rfl rfl rfl rfl rfl ⟨rfl, rfl, rfl, rfl, rfl⟩ rfl rfl rfl rfl rfl (by kernel_rfl) Tryz.func9 (by kernel_rfl)
    (of_decide_eq_true (by kernel_rfl)) (by unfold Func.isWrapper; first | (rw [if_pos (by decide +kernel)]; kernel_rfl) | (rw [if_neg (by decide +kernel)]; exact ⟨rfl, rfl⟩))
    (fun os started H enc _ => lifted os started H enc)

/-- THE TIED CARD. -/
theorem proved : Rows.CheckFirstCardSaid :=
  Claim7.holds_tied_plain_at .later [] [.data] true (true, "c943f872ca2d9f9f81c620679e9a8bbe22fc0b1696667d16fa7e21e845c9e98a") false
    row_holds (fun _ h => by cases h) (by kernel_rfl) (fun _ h => by cases h) checkFirst_row_tie rfl ⟨rfl, rfl⟩ (by kernel_rfl) rfl
    (fun f fn hf hfn => by
      obtain rfl : f = 9 := Option.some.inj ((show Tryz.prog.funcNamed "palings/palingslaw05.CheckFirst" = some 9 by kernel_rfl).symm.trans hf) |>.symm
      obtain rfl : fn = Tryz.f9 := (Option.some.inj (Tryz.func9.symm.trans hfn)).symm
      exact ⟨by kernel_rfl, fun j t ht => by
        rw [Tryz.params9] at ht
        have hm : t ∈ [3, 3, 3] := by simpa using Array.mem_of_getElem? ht
        have hall : ([3, 3, 3].all fun u => !Tryz.prog.wantsStandIn u) = true := by kernel_rfl
        exact (show Tryz.prog.wantsStandIn t = false by simpa using List.all_eq_true.1 hall t hm)⟩)
    (by kernel_rfl)
#print axioms proved
end Go.Proofs.YtffgioifjdpajaaGreatDoor.checkFirst
