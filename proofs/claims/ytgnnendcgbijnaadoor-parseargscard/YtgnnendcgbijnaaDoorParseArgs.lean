/-
  ParseArgs: for every two numbers the law returns true, and its arguments read as before. The package-level tables are as the program's text lays them (the card ties them).
-/
import Derived.Test.YtgnnendcgbijnaaDoorTie
import Derived.Test.YtgnnendcgbijnaaDoorCards
import Derived.Test.YtgnnendcgbijnaaDoorArgs
import Derived.ProofKit
import Derived.LaidMore
import Derived.OpenShut
import Derived.ShutString
import Derived.SliceStrings
import Derived.Stop.Joined
import Derived.SevenTiedAt
namespace Go.Proofs.YtgnnendcgbijnaaDoor.parseArgs
open Go.ChangeShapes Go.WideShapes Go.ChangeAt Go.WideMaps Go.WideElems Go.RowKit
open Go.ChangeMaps (open_string shut_string)
set_option linter.unusedVariables false

theorem cat_lists (x y : List UInt8) : (⟨x.toArray⟩ : ByteArray) ++ ⟨y.toArray⟩ = ⟨(x ++ y).toArray⟩ := by
  apply ByteArray.ext
  rw [ByteArray.data_append]
  apply Array.toList_inj.1
  simp
theorem size_list (x : List UInt8) : (⟨x.toArray⟩ : ByteArray).size = x.length := by simp [ByteArray.size]
theorem conv_one (c : UInt8) (w : World) : (convert 60 9 (.slice (some ⟨w.heap.size, 0, none⟩) 1 1)).run Tryd.prog (w.alloc (.cells #[.int .u8 (c.toNat : Int)] 5)) = .ok (.string ⟨#[c]⟩) (w.alloc (.cells #[.int .u8 (c.toNat : Int)] 5)) := by
  have h : (⟨#[c]⟩ : ByteArray) = strOfNums [(c.toNat : Int)] := by simp [strOfNums]
  rw [h]
  refine run_convert_bytes_arg (P := Tryd.prog) _ 60 5 Tryd.underlying60 Tryd.underlying5 w.heap.size 0 1 1 [(c.toNat : Int)] rfl (fun i hi => ?_) 9 Tryd.underlying9
  obtain rfl : i = 0 := by omega
  simp
set_option maxHeartbeats 1000000 in
theorem name_any (i : Nat) (w : World) : Calls Tryd.prog 9 #[.int .i64 (i : Int)] w fun e w' => e = .returned (.string ⟨(nmL i).toArray⟩) ∧ w.grownBy w' none := by
  have hb := and7 (i : Int)
  have hm : i % 8 = 0 ∨ i % 8 = 1 ∨ i % 8 = 2 ∨ i % 8 = 3 ∨ i % 8 = 4 ∨ i % 8 = 5 ∨ i % 8 = 6 ∨ i % 8 = 7 := by omega
  have he : (((i : Int) % 8).toNat : Int) = ((i % 8 : Nat) : Int) := by omega
  rw [he] at hb
  have HM := Lib.hid (show nmL i = [110, [97, 98, 99, 100, 101, 102, 103, 104].getD (i % 8) 97] from rfl)
  clear he
  rcases hm with hm | hm | hm | hm | hm | hm | hm | hm
  · rw [hm] at hb
    have hcv : (convert 60 9 (.slice (some ⟨w.heap.size, 0, none⟩) 1 1)).run Tryd.prog (w.alloc (.cells #[.int .u8 97] 5)) = .ok (.string ⟨#[97]⟩) (w.alloc (.cells #[.int .u8 97] 5)) := conv_one 97 w
    rw [HM.out, hm]
    clear HM hm
    go_enter Tryd.func9, Tryd.ntmps9
    go_wp2_with (fail)
    go_ret
    exact ⟨rfl, grown_alloc _ _⟩
  · rw [hm] at hb
    have hcv : (convert 60 9 (.slice (some ⟨w.heap.size, 0, none⟩) 1 1)).run Tryd.prog (w.alloc (.cells #[.int .u8 98] 5)) = .ok (.string ⟨#[98]⟩) (w.alloc (.cells #[.int .u8 98] 5)) := conv_one 98 w
    rw [HM.out, hm]
    clear HM hm
    go_enter Tryd.func9, Tryd.ntmps9
    go_wp2_with (fail)
    go_ret
    exact ⟨rfl, grown_alloc _ _⟩
  · rw [hm] at hb
    have hcv : (convert 60 9 (.slice (some ⟨w.heap.size, 0, none⟩) 1 1)).run Tryd.prog (w.alloc (.cells #[.int .u8 99] 5)) = .ok (.string ⟨#[99]⟩) (w.alloc (.cells #[.int .u8 99] 5)) := conv_one 99 w
    rw [HM.out, hm]
    clear HM hm
    go_enter Tryd.func9, Tryd.ntmps9
    go_wp2_with (fail)
    go_ret
    exact ⟨rfl, grown_alloc _ _⟩
  · rw [hm] at hb
    have hcv : (convert 60 9 (.slice (some ⟨w.heap.size, 0, none⟩) 1 1)).run Tryd.prog (w.alloc (.cells #[.int .u8 100] 5)) = .ok (.string ⟨#[100]⟩) (w.alloc (.cells #[.int .u8 100] 5)) := conv_one 100 w
    rw [HM.out, hm]
    clear HM hm
    go_enter Tryd.func9, Tryd.ntmps9
    go_wp2_with (fail)
    go_ret
    exact ⟨rfl, grown_alloc _ _⟩
  · rw [hm] at hb
    have hcv : (convert 60 9 (.slice (some ⟨w.heap.size, 0, none⟩) 1 1)).run Tryd.prog (w.alloc (.cells #[.int .u8 101] 5)) = .ok (.string ⟨#[101]⟩) (w.alloc (.cells #[.int .u8 101] 5)) := conv_one 101 w
    rw [HM.out, hm]
    clear HM hm
    go_enter Tryd.func9, Tryd.ntmps9
    go_wp2_with (fail)
    go_ret
    exact ⟨rfl, grown_alloc _ _⟩
  · rw [hm] at hb
    have hcv : (convert 60 9 (.slice (some ⟨w.heap.size, 0, none⟩) 1 1)).run Tryd.prog (w.alloc (.cells #[.int .u8 102] 5)) = .ok (.string ⟨#[102]⟩) (w.alloc (.cells #[.int .u8 102] 5)) := conv_one 102 w
    rw [HM.out, hm]
    clear HM hm
    go_enter Tryd.func9, Tryd.ntmps9
    go_wp2_with (fail)
    go_ret
    exact ⟨rfl, grown_alloc _ _⟩
  · rw [hm] at hb
    have hcv : (convert 60 9 (.slice (some ⟨w.heap.size, 0, none⟩) 1 1)).run Tryd.prog (w.alloc (.cells #[.int .u8 103] 5)) = .ok (.string ⟨#[103]⟩) (w.alloc (.cells #[.int .u8 103] 5)) := conv_one 103 w
    rw [HM.out, hm]
    clear HM hm
    go_enter Tryd.func9, Tryd.ntmps9
    go_wp2_with (fail)
    go_ret
    exact ⟨rfl, grown_alloc _ _⟩
  · rw [hm] at hb
    have hcv : (convert 60 9 (.slice (some ⟨w.heap.size, 0, none⟩) 1 1)).run Tryd.prog (w.alloc (.cells #[.int .u8 104] 5)) = .ok (.string ⟨#[104]⟩) (w.alloc (.cells #[.int .u8 104] 5)) := conv_one 104 w
    rw [HM.out, hm]
    clear HM hm
    go_enter Tryd.func9, Tryd.ntmps9
    go_wp2_with (fail)
    go_ret
    exact ⟨rfl, grown_alloc _ _⟩
theorem args_len : ∀ n, (argsT n).length ≤ 2 * n
  | 0 => by simp [argsT]
  | n + 1 => by
    have := args_len n
    rw [argsT]; split
    · simp; omega
    · simp; omega
theorem params_len : ∀ n, (paramsT n).length ≤ 4 * n
  | 0 => by simp [paramsT]
  | n + 1 => by
    have := params_len n
    rw [paramsT]; split
    · simp [nmL]; omega
    · simp [nmL]; omega
theorem globals_len : ∀ n, (globalsT n).length ≤ 10 * n
  | 0 => by simp [globalsT]
  | n + 1 => by
    have := globals_len n
    simp [globalsT, nmL]; omega
theorem gls_len {w : World} {S : Nat → Prop} {l : List Gl} {v : Value} (h : GlsAt w S l v) : ∃ a c, v = .slice a l.length c := by
  rcases h with ⟨rfl, a, cap, rfl⟩ | ⟨_, g, o, cap, rfl, _⟩ <;> exact ⟨_, _, rfl⟩
theorem strs_len {w : World} {S : Nat → Prop} {l : List (List UInt8)} {v : Value} (h : StrsAt w S l v) : ∃ a c, v = .slice a l.length c := by
  rcases h with ⟨rfl, a, cap, rfl⟩ | ⟨_, g, o, cap, rfl, _⟩ <;> exact ⟨_, _, rfl⟩
theorem kids_len {w : World} {S : Nat → Prop} {kind line col num : Int} {name : List UInt8} {op : Int} {es : List Ex} {cs : Array Value} (h : (Ex.mk kind line col num name op es).At w S cs) : ∃ a c, cs = cells7 kind line col num name op (.slice a es.length c) := by
  unfold Ex.At at h
  obtain ⟨_, _, v, rfl, _, h⟩ := h
  rcases h with ⟨rfl, a, cap, rfl⟩ | ⟨_, g, o, cap, rfl, _⟩ <;> exact ⟨_, _, rfl⟩
set_option maxHeartbeats 4000000 in
set_option maxRecDepth 100000 in
theorem args_core (a b : Int) (n m : Nat) (hn : n < 32) (hm : m < 32) (hna : bits .and .i64 a 31 = (n : Int)) (hmb : bits .and .i64 b 31 = (m : Int)) (w : World) (hg : Ground w) :
    Calls Tryd.prog 6 #[.int .i64 a, .int .i64 b] w fun e w' => e = .returned (.bool true) ∧ Below w.heap.size w w' := by
  have HG := Lib.hid hg
  clear hg
  go_enter Tryd.func6, Tryd.ntmps6
  go_wp2_with (fail)
  refine (head_any _ HG.out).mono ?_
  rintro e w1 ⟨rfl, hg1⟩
  have HG1 := Lib.hid hg1
  clear hg1
  go_upto_region 7 with (fail)
  clear hna hmb
  go_loop [5, 6] (fun x i => ∃ j : Nat, j ≤ n ∧ i = .int .i64 j ∧ x = .string ⟨(argsT j).toArray⟩) (fun _ i => n - (intOf i).toNat)
  case atStart => exact ⟨0, Nat.zero_le _, rfl, rfl⟩
  case round =>
    obtain ⟨j, hj, rfl, rfl⟩ := hrel
    have hx1 := args_len j
    rw [← size_list] at hx1
    by_cases hlt2 : j < n
    · by_cases hj0 : j = 0
      · subst hj0
        go_wp2_with (fail)
        go_round
        case rel => exact ⟨1, by omega, by go_num, rfl⟩
        case measure => simp [intOf]; omega
      · have hj1 : 0 < j := by omega
        have hj2 : decide ((0 : Int) < j) = true := by simp; omega
        have HX := Lib.hid (show (⟨(argsT j).toArray⟩ : ByteArray) ++ ⟨#[44]⟩ ++ ⟨#[49]⟩ = ⟨(argsT (j + 1)).toArray⟩ by
          rw [argsT, if_neg hj0, show (⟨#[44]⟩ : ByteArray) = ⟨[(44 : UInt8)].toArray⟩ from rfl, show (⟨#[49]⟩ : ByteArray) = ⟨[(49 : UInt8)].toArray⟩ from rfl, cat_lists, cat_lists])
        clear hj0
        generalize (⟨(argsT j).toArray⟩ : ByteArray) = X at hx1 HX
        have hXs : X.size ≤ 100 := by omega
        clear hx1
        go_wp2_with (fail)
        go_round
        case rel => exact ⟨j + 1, by omega, by go_num, by rw [HX.out]⟩
        case measure => simp [intOf]; omega
    · obtain rfl : n = j := by omega
      clear hlt2
      generalize hX1 : (⟨(argsT n).toArray⟩ : ByteArray) = X at hx1
      have HX := Lib.hid hX1
      have hXs : X.size ≤ 100 := by omega
      clear hx1 hX1
      go_upto_region 15 with (fail)
      go_loopw [7, 8, 9] (fun x y i wr => ∃ j : Nat, j ≤ m ∧ i = .int .i64 j ∧ x = .string ⟨(paramsT j).toArray⟩ ∧ y = .string ⟨(globalsT j).toArray⟩ ∧ w.grownBy wr none) (fun _ _ i _ => m - (intOf i).toNat)
      case atStart => exact ⟨0, Nat.zero_le _, rfl, rfl, rfl, HG1.out⟩
      case round =>
        obtain ⟨j, hj, rfl, rfl, rfl, hgr⟩ := hrel
        have HGR := Lib.hid hgr
        clear hgr
        have hx1 := params_len j
        have hy1 := globals_len j
        rw [← size_list] at hx1 hy1
        by_cases hlt2 : j < m
        · have hnl : (⟨(nmL j).toArray⟩ : ByteArray).size = 2 := by rw [size_list]; rfl
          have HY := Lib.hid (show (⟨(globalsT j).toArray⟩ : ByteArray) ++ ⟨#[118, 97, 114, 32]⟩ ++ ⟨(nmL j).toArray⟩ ++ ⟨#[91, 55, 93, 59]⟩ = ⟨(globalsT (j + 1)).toArray⟩ by
            rw [globalsT, show (⟨#[118, 97, 114, 32]⟩ : ByteArray) = ⟨[(118 : UInt8), 97, 114, 32].toArray⟩ from rfl, show (⟨#[91, 55, 93, 59]⟩ : ByteArray) = ⟨[(91 : UInt8), 55, 93, 59].toArray⟩ from rfl, cat_lists, cat_lists, cat_lists])
          have HN := Lib.hid (fun w => name_any j w)
          by_cases hj0 : j = 0
          · subst hj0
            have HX := Lib.hid (show (⟨(paramsT 0).toArray⟩ : ByteArray) ++ ⟨(nmL 0).toArray⟩ = ⟨(paramsT 1).toArray⟩ by rw [cat_lists]; rfl)
            generalize (⟨(nmL 0).toArray⟩ : ByteArray) = M at hnl HX HY HN
            generalize (⟨(paramsT 0).toArray⟩ : ByteArray) = X1 at hx1 HX
            generalize (⟨(globalsT 0).toArray⟩ : ByteArray) = Y1 at hy1 HY
            have hMs : M.size ≤ 2 := by omega
            have hX1s : X1.size ≤ 200 := by omega
            have hY1s : Y1.size ≤ 400 := by omega
            clear hx1 hy1 hnl
            go_wp2_with (fail)
            refine (HN.out _).mono ?_
            rintro e w2 ⟨rfl, hg2⟩
            have HG2 := Lib.hid (grown_trans HGR.out hg2)
            clear hg2
            go_wp2_with (fail)
            refine (HN.out _).mono ?_
            rintro e w3 ⟨rfl, hg3⟩
            have HG3 := Lib.hid (grown_trans HG2.out hg3)
            clear hg3
            go_wp2_with (fail)
            go_roundw
            case rel => exact ⟨1, by omega, by go_num, by rw [HX.out], by rw [HY.out], HG3.out⟩
            case measure => simp [intOf]; omega
          · have hj1 : 0 < j := by omega
            have hj2 : decide ((0 : Int) < j) = true := by simp; omega
            have HX := Lib.hid (show (⟨(paramsT j).toArray⟩ : ByteArray) ++ ⟨#[44, 32]⟩ ++ ⟨(nmL j).toArray⟩ = ⟨(paramsT (j + 1)).toArray⟩ by
              rw [paramsT, if_neg hj0, show (⟨#[44, 32]⟩ : ByteArray) = ⟨[(44 : UInt8), 32].toArray⟩ from rfl, cat_lists, cat_lists])
            clear hj0
            generalize (⟨(nmL j).toArray⟩ : ByteArray) = M at hnl HX HY HN
            generalize (⟨(paramsT j).toArray⟩ : ByteArray) = X1 at hx1 HX
            generalize (⟨(globalsT j).toArray⟩ : ByteArray) = Y1 at hy1 HY
            have hMs : M.size ≤ 2 := by omega
            have hX1s : X1.size ≤ 200 := by omega
            have hY1s : Y1.size ≤ 400 := by omega
            clear hx1 hy1 hnl
            go_wp2_with (fail)
            refine (HN.out _).mono ?_
            rintro e w2 ⟨rfl, hg2⟩
            have HG2 := Lib.hid (grown_trans HGR.out hg2)
            clear hg2
            go_wp2_with (fail)
            refine (HN.out _).mono ?_
            rintro e w3 ⟨rfl, hg3⟩
            have HG3 := Lib.hid (grown_trans HG2.out hg3)
            clear hg3
            go_wp2_with (fail)
            go_roundw
            case rel => exact ⟨j + 1, by omega, by go_num, by rw [HX.out], by rw [HY.out], HG3.out⟩
            case measure => simp [intOf]; omega
        · obtain rfl : m = j := by omega
          clear hlt2
          have HT := Lib.hid (show ((⟨(globalsT m).toArray⟩ : ByteArray) ++ ⟨#[102, 117, 110, 99, 32, 102, 40]⟩ ++ ⟨(paramsT m).toArray⟩ ++ ⟨#[41, 32, 123, 32, 103, 40]⟩ ++ X ++ ⟨#[41, 59, 32, 125]⟩).data.toList = argText n m by
            rw [← HX.out]
            simp [ByteArray.data_append, argText])
          generalize (⟨(paramsT m).toArray⟩ : ByteArray) = X1 at hx1 HT
          generalize (⟨(globalsT m).toArray⟩ : ByteArray) = Y1 at hy1 HT
          have hX1s : X1.size ≤ 200 := by omega
          have hY1s : Y1.size ≤ 400 := by omega
          clear hx1 hy1
          go_wp2_with (fail)
          refine (Program_any _ (by rw [ByteArray.size_append, ByteArray.size_append, ByteArray.size_append, ByteArray.size_append, ByteArray.size_append]; have q1 : (⟨#[102, 117, 110, 99, 32, 102, 40]⟩ : ByteArray).size = 7 := rfl; have q2 : (⟨#[41, 32, 123, 32, 103, 40]⟩ : ByteArray).size = 6 := rfl; have q3 : (⟨#[41, 59, 32, 125]⟩ : ByteArray).size = 4 := rfl; omega) _ (HG.out.more HGR.out).signs).mono ?_
          intro e w4 hp4
          rw [HT.out] at hp4
          obtain ⟨cs, rfl, hat4, hgr4⟩ := hp4
          have HX4 := Lib.hid (grown_trans HGR.out hgr4)
          clear hgr4
          obtain ⟨gs, fn, hr, r1, r2, a1, a2, a3, a4, es, r3, r4⟩ := arg_parse n m
          rw [hr] at hat4
          rw [hr]
          obtain ⟨gv4, fv4, rfl, hgl4, hfn4⟩ := hat4
          obtain ⟨ga4, gc4, rfl⟩ := gls_len hgl4
          obtain ⟨g1, o1, cap1, pv, bv, rfl, hl1, hpar, hbody, c0, c1, c2⟩ := fns_one hfn4
          obtain ⟨pa, pc, rfl⟩ := strs_len hpar
          rw [r3] at hbody
          obtain ⟨g2, o2, cap2, ev, tv, lv, rfl, hl2, hkid, _, _, d0, d3, d4, d5, d6⟩ := body_open hbody
          obtain ⟨g3, o3, cap3, k3, l3, cc3, n3, m3, op3, x3, y3, z3, rfl, hl3, hat, e0, e1, e2, e3, e4, e5, e6⟩ := kids_open hkid
          obtain ⟨ka, kc, hkc⟩ := kids_len hat
          have hy3 : y3 = n := by
            have := congrArg (fun c => c[6]?) hkc
            simp [cells7] at this
            rw [← r4]; exact this.2.1
          subst hy3
          rw [r1]
          rw [r2] at c1
          have HHAT := Lib.hid hat
          clear hgl4 hfn4 hpar hbody hkid hat hkc hr r1 r2 r3 r4 c0 d0 d3 d5 d6 e0 e1 e2 e3 e4 e5
          go_wp2_with (fail)
          go_ret
          exact ⟨rfl, below_grown (grown_trans (grown_trans HX4.out (grown_alloc _ _)) (grown_alloc _ _)) (Nat.le_refl _)⟩
theorem all (a : Int) (ha : InI64 a) (b : Int) (hb : InI64 b) (w : World) (hg : Ground w) :
    Calls Tryd.prog 6 #[.int .i64 a, .int .i64 b] w fun e w' => e = .returned (.bool true) ∧ Below w.heap.size w w' :=
  args_core a b _ _ (by omega) (by omega) (and31 a) (and31 b) w hg


theorem door_met (os : Os) (args : Array Value) : laidMetH Tryd.prog [("math/bits.deBruijn32tab", Rows.laid_math_bits_deBruijn32tab), ("math/bits.deBruijn64tab", Rows.laid_math_bits_deBruijn64tab), ("internal/strconv.uint64pow10", Rows.laid_internal_strconv_uint64pow10), ("palings/ast.signs", Rows.laid_palings_ast_signs)] ((World.doorLaid Tryd.prog 4000 os).forCall (fun _ _ => 0) ⟨#[], args, []⟩).memory :=
  laidMetH_of_parts3 (fuel := 8) (laidMet_of_run' 8 (by kernel_rfl) (by kernel_rfl)) (by kernel_rfl) (by kernel_rfl)
theorem own : ownKnob Tryd.prog.godebug = none := by kernel_rfl

set_option maxHeartbeats 2000000 in
set_option maxRecDepth 100000 in
theorem lifted (os : Os) (started : os.Started) (H : Type) (enc : TypeId × Value → H) :
    ReturnsInHanded {} Tryd.checked os 6 .any (fun w args => (Rows.parseArgsSpec.pre enc Tryd.prog Tryd.f6 [] false w args ∧ laidMetH Tryd.prog [("math/bits.deBruijn32tab", Rows.laid_math_bits_deBruijn32tab), ("math/bits.deBruijn64tab", Rows.laid_math_bits_deBruijn64tab), ("internal/strconv.uint64pow10", Rows.laid_internal_strconv_uint64pow10), ("palings/ast.signs", Rows.laid_palings_ast_signs)] w) ∧ sizedMet enc Tryd.prog Tryd.f6 (OpenSpec.ofChange Rows.parseArgsSpec) false w args)
      (Rows.parseArgsSpec.post enc Tryd.prog Tryd.f6 false true false false) := by
  refine returnsInHanded_of_change_and (C := Tryd.checked) (X := fun w _ => laidMetH Tryd.prog [("math/bits.deBruijn32tab", Rows.laid_math_bits_deBruijn32tab), ("math/bits.deBruijn64tab", Rows.laid_math_bits_deBruijn64tab), ("internal/strconv.uint64pow10", Rows.laid_internal_strconv_uint64pow10), ("palings/ast.signs", Rows.laid_palings_ast_signs)] w) (fun _ _ _ hh h => h.of_heap hh) own started (by kernel_rfl) Tryd.func6
    (ChangeSpec.witness_shaped (enc := enc) (C := Tryd.checked) (os := os) (X := fun w _ => laidMetH Tryd.prog [("math/bits.deBruijn32tab", Rows.laid_math_bits_deBruijn32tab), ("math/bits.deBruijn64tab", Rows.laid_math_bits_deBruijn64tab), ("internal/strconv.uint64pow10", Rows.laid_internal_strconv_uint64pow10), ("palings/ast.signs", Rows.laid_palings_ast_signs)] w) false (World.doorLaid Tryd.prog 4000 os) #[.int .i64 0, .int .i64 0] 8 rfl (World.shaped_of_RefB (by kernel_rfl) (by kernel_rfl)) (by kernel_rfl) (by kernel_rfl) (by kernel_rfl) (door_met os _)) ?_
  intro W base args ds gs before hval0 hW _ _ hL _
  have hval : ∀ (j : Nat) t v, Tryd.f6.params[j]? = some t → args[j]? = some v → Value.okWide Tryd.prog W .any base t v := hval0
  have hW' := hW
  obtain ⟨p, q, hA0, hV, rfl, hfz, hnd⟩ := hW
  have hA : DataW.TrodAll enc Tryd.prog W 0 (fun _ => true) true Tryd.f6.params.toList args.toList ds p := hA0
  rw [Tryd.params6] at hA hval
  obtain ⟨v0, vs0, d0, ds0, p0, q0, hargs, rfl, rfl, h0, r0⟩ := trodAll_cons hA
  obtain ⟨v1, vs1, d1, ds1, p1, q1, rfl, rfl, rfl, h1, r1⟩ := trodAll_cons r0
  obtain ⟨rfl, rfl, rfl⟩ := trodAll_nil r1
  obtain rfl : args = #[v0, v1] := by cases args; simp_all
  obtain ⟨rfl, rfl⟩ := trodVars_none hV
  obtain ⟨a0, rfl, rfl, rfl, w0⟩ := open_int Tryd.underlying3 (hval 0 3 v0 rfl rfl) h0
  obtain ⟨a1, rfl, rfl, rfl, w1⟩ := open_int Tryd.underlying3 (hval 1 3 v1 rfl rfl) h1
  clear hA0 hval0
  simp only [List.append_nil] at hW'
  refine (all a0 (bounds_i64 w0) a1 (bounds_i64 w1) W (ground_of (by kernel_rfl) (by simp) (by simp) hL)).mono fun e W' ⟨he, hg⟩ => ?_
  subst he
  exact ⟨_, rfl, post_new hW' (fun _ _ _ => (trodAll_cons_mk (shut_bool Tryd.underlying4 _) trodAll_mk0)) (fun sp => (trodAll_cons_mk (shut_int Tryd.underlying3 w0) (trodAll_cons_mk (shut_int Tryd.underlying3 w1) trodAll_mk0))) (fun _ => rfl) hg (ok_one (by kernel_rfl) rfl (okWide_bool_mk Tryd.underlying4 _))⟩

theorem row_holds : Rows.ParseArgsSaid :=
  OpenClaim.holds_of_wide 6 Tryd.f6 rfl rfl rfl rfl rfl rfl rfl ⟨rfl, rfl, rfl, rfl, rfl⟩ rfl rfl rfl rfl rfl (by kernel_rfl) Tryd.func6 (by kernel_rfl)
    (of_decide_eq_true (by kernel_rfl)) (by unfold Func.isWrapper; first | (rw [if_pos (by decide +kernel)]; kernel_rfl) | (rw [if_neg (by decide +kernel)]; exact ⟨rfl, rfl⟩))
    (fun os started H enc _ => lifted os started H enc)

/-- THE TIED CARD. -/
theorem proved : Rows.ParseArgsCardSaid :=
  Claim7.holds_tied_plain_at .later [] [.data, .data, .data, .data] true (true, "610b11168ef55bf6870f634f4d0465f649b1fd268af35aca64eca690de79b1ed") false
    row_holds (fun _ h => by cases h) (by kernel_rfl) (fun _ h => by cases h) parseArgs_row_tie rfl ⟨rfl, rfl⟩ (by kernel_rfl) rfl
    (fun f fn hf hfn => by
      obtain rfl : f = 6 := Option.some.inj ((show Tryd.prog.funcNamed "palings/palingslaw04.ParseArgs" = some 6 by kernel_rfl).symm.trans hf) |>.symm
      obtain rfl : fn = Tryd.f6 := (Option.some.inj (Tryd.func6.symm.trans hfn)).symm
      exact ⟨by kernel_rfl, fun j t ht => by
        rw [Tryd.params6] at ht
        have hm : t ∈ [3, 3] := by simpa using Array.mem_of_getElem? ht
        have hall : ([3, 3].all fun u => !Tryd.prog.wantsStandIn u) = true := by kernel_rfl
        exact (show Tryd.prog.wantsStandIn t = false by simpa using List.all_eq_true.1 hall t hm)⟩)
    (by kernel_rfl)
#print axioms proved
end Go.Proofs.YtgnnendcgbijnaaDoor.parseArgs
