/-
  flow: find.
-/
import Derived.Test.YtipongpgmbhpkaaDomY
namespace Go.Proofs.Ytipongpgmbhpkaa
open Go.ChangeShapes Go.WideShapes Go.ChangeAt Go.RowKit
open Go.Proofs.Ytipongpgmbhpkaa.RegInv
set_option linter.unusedVariables false

def stL (l : Lo) (b : Nat) (top : Int) (c d : Bool) : Lo := ⟨if c then l.outer.set b top else l.outer, if d then l.far.set b top else l.far⟩
structure LI (B : Nat) (w0 : World) (P G : Nat) (tv uv ov fv : Value) (l : Lo) (i : Nat) (rs : List (Value × List Int)) (row : Value × List Int) (b : Nat) (top : Int) (L : Nat → Bool) (g : Nat) (w : World) : Prop where
  low : Below B w0 w
  kept : KeptL ov fv w0 w
  at' : ∃ rs2, LoAt B w P G tv uv ov fv (stL l b top (L 13) (L 15)) (rs2 ++ [row]) i ∧ Rest2 i rs rs2
theorem LI.skip {B : Nat} {w0 : World} {P G : Nat} {tv uv ov fv : Value} {l : Lo} {i : Nat} {rs : List (Value × List Int)} {row : Value × List Int} {b : Nat} {top : Int} {L : Nat → Bool} {g : Nat} {w : World} (h : LI B w0 P G tv uv ov fv l i rs row b top L g w) {j : Nat} (hj : 13 ≠ j ∧ 15 ≠ j) : LI B w0 P G tv uv ov fv l i rs row b top (setL L j) g w := by
  refine ⟨h.low, h.kept, ?_⟩
  rw [setL_ne hj.1, setL_ne hj.2]
  exact h.at'
def lV (P og fg n oc fc b top : Nat) (g : Nat) : List Value :=
  [.pointer (some ⟨P, 0, none⟩), .pointer (some ⟨P, 0, none⟩), .pointer (some ⟨P, 3, none⟩), .slice (some ⟨og, 0, none⟩) n oc, .int .i64 b, .pointer (some ⟨P, 0, none⟩), .pointer (some ⟨P, 0, none⟩), .pointer (some ⟨P, 4, none⟩), .slice (some ⟨fg, 0, none⟩) n fc, .int .i64 b, .int .i64 top, .int .i64 top, .pointer (some ⟨og, b, none⟩), undef, .pointer (some ⟨fg, b, none⟩), undef]
set_option maxHeartbeats 16000000 in
set_option maxRecDepth 100000 in
theorem find_any {B : Nat} {w : World} {P G n og oc fg fc ig ic it iu i : Nat} {tv uv x0 : Value} {l : Lo} {t : Tr} {ins : List (List Int)} {rs : List (Value × List Int)}
    (h : LoAt B w P G tv uv (.slice (some ⟨og, 0, none⟩) n oc) (.slice (some ⟨fg, 0, none⟩) n fc) l rs i) (hok : l.ok n) (hn : n ≤ 1000000)
    (hit : rs[it]? = some (tv, t.place)) (hiu : rs[iu]? = some (uv, t.size)) (hdis : it ≠ i ∧ it ≠ i + 1 ∧ iu ≠ i ∧ iu ≠ i + 1) (ht : t.ok n)
    (hg : G < B) (hgc : w.cell? ⟨G, 1, none⟩ = some (.slice (some ⟨ig, 0, none⟩) n ic)) (hig : ig < B) (hil : ins.length = n) (hins : InsAt2 B w ig ins) (hinr : ∀ r ∈ ins, ∀ x ∈ r, 0 ≤ x ∧ x < (n : Int))
    (top : Nat) (htop : top < n) (row : List Int) (hrow : ins[top]? = some row) (K : Nat) (hfo : findOk t ins top K (row.filter (fun b => t.over top b)) l = true) :
    Calls Try.prog 21 #[.pointer (some ⟨P, 0, none⟩), .int .i64 top] w fun e w' => e = .returned (.bool (!(row.filter (fun b => t.over top b)).isEmpty)) ∧ Below B w w' ∧ KeptL (.slice (some ⟨og, 0, none⟩) n oc) (.slice (some ⟨fg, 0, none⟩) n fc) w w' ∧ ∃ rs', LoAt B w' P G tv uv (.slice (some ⟨og, 0, none⟩) n oc) (.slice (some ⟨fg, 0, none⟩) n fc) (Lo.find t ins top K (row.filter (fun b => t.over top b)) l) rs' i ∧ Rest2 i rs rs' := by
  obtain ⟨i0, hi, hz0⟩ := Option.map_eq_some_iff.1 info3
  obtain ⟨h1, h2, h3⟩ : i0.zero = some (.int .i64 0) ∧ i0.size = 1 ∧ i0.bytes = 8 := by simpa using hz0
  have HI := Lib.hid hi; have HZ0 := Lib.hid h1; have HZ1 := Lib.hid h2; have HZ2 := Lib.hid h3
  clear hi h1 h2 h3 hz0
  obtain ⟨fin, hfin⟩ : ∃ r, r = Lo.find t ins top K (row.filter (fun b => t.over top b)) l := ⟨_, rfl⟩
  obtain ⟨first, hfirst⟩ : ∃ r, r = row.filter (fun b => t.over top b) := ⟨_, rfl⟩
  rw [← hfirst] at hfin hfo ⊢
  rw [← hfin]
  have hirs : i + 1 < rs.length := (List.getElem?_eq_some_iff.1 h.far).1
  have HIRS := Lib.hid hirs
  obtain ⟨hrl, ra, rc, hcr, hrr⟩ := hins top row hrow
  have HL := Lib.hid h; have HOK := Lib.hid hok; have HIT := Lib.hid hit; have HIU := Lib.hid hiu; have HDIS := Lib.hid hdis; have HT := Lib.hid ht; have HINS := Lib.hid hins; have HINR := Lib.hid hinr; have HROW := Lib.hid hrow; have HFO := Lib.hid hfo; have HFIN := Lib.hid hfin; have HFIRST := Lib.hid hfirst; have HRR := Lib.hid hrr; have HIL := Lib.hid hil
  have hbx := h.box
  have b0 : w.cell? ⟨P, 0, none⟩ = some (.pointer (some ⟨G, 0, none⟩)) := cell_ok hbx 0
  have hPl := lt_heap hbx
  have hGl : G < w.heap.size := by have := h.low; omega
  have higl : ig < w.heap.size := by have := h.low; omega
  have hti : (top : Int) < (n : Int) := by omega
  have HBW := Lib.hid (show B ≤ w.heap.size from by have := h.low; omega)
  clear h hok hit hiu hdis ht hins hinr hrow hfo hfin hfirst hrr hbx hil hirs
  go_enter Try.func21, Try.ntmps21
  go_wp2_with (fail)
  go_loopw [5, 6, 23] (fun sv lv iv wr => ∃ (k : Nat) (la : Option Addr) (lc m : Nat), k ≤ row.length ∧ iv = .int .i64 k ∧ lv = .slice la m lc ∧ ((row.take k).filter (fun b => t.over top b)).length = m ∧ m ≤ k ∧ sv = .bool (!((row.take k).filter (fun b => t.over top b)).isEmpty) ∧ Below B w wr ∧ KeptL (.slice (some ⟨og, 0, none⟩) n oc) (.slice (some ⟨fg, 0, none⟩) n fc) w wr ∧ (∀ q, (Value.slice la m lc).ownBlock = some q → w.heap.size ≤ q) ∧ LoAt B wr P G tv uv (.slice (some ⟨og, 0, none⟩) n oc) (.slice (some ⟨fg, 0, none⟩) n fc) l (rs ++ [(.slice la m lc, (row.take k).filter (fun b => t.over top b))]) i) (fun _ _ iv _ => row.length - (intOf iv).toNat)
  case atStart => exact ⟨0, none, 0, 0, Nat.zero_le _, rfl, rfl, rfl, Nat.le_refl _, rfl, Below.refl _ _, KeptL.refl _ _ _, (fun q e => by cases e), HL.out.more (own_nil _ _ _) (fun k r hk q hq e => by cases e)⟩
  case round =>
    obtain ⟨k, la, lc, m, hk, rfl, rfl, hml, hmk, rfl, hbr, hkr, hqr, hlr⟩ := hrel
    by_cases hkl : k < row.length
    · have hki : (k : Int) < (row.length : Int) := by omega
      obtain ⟨rb, hra, hrb, hrbl, hrcell⟩ := HRR.out (fun e => by rw [e] at hkl; simp at hkl)
      subst hra
      obtain ⟨xx, hxx⟩ : ∃ x, row[k]? = some x := ⟨_, List.getElem?_eq_getElem hkl⟩
      have hxr := HINR.out row (List.mem_of_getElem? HROW.out) xx (List.mem_of_getElem? hxx)
      obtain ⟨xb, rfl⟩ : ∃ xb : Nat, xx = xb := ⟨xx.toNat, by omega⟩
      have hxn : xb < n := by omega
      have r1 := (hbr.cell (p := ⟨rb, k, none⟩) hrb).trans (hrcell k xb hxx)
      have HFT := Lib.hid (filter_take (f := fun b => t.over top b) hxx)
      have hbx := hlr.box
      have b1 : wr.cell? ⟨P, 1, none⟩ = some tv := cell_ok hbx 1
      have b2 : wr.cell? ⟨P, 2, none⟩ = some uv := cell_ok hbx 2
      have hPl := lt_heap hbx
      have HLR := Lib.hid hlr; have HBR := Lib.hid hbr; have HKR := Lib.hid hkr; have HQR := Lib.hid hqr; have HML := Lib.hid hml
      have hi1 := (List.getElem?_eq_some_iff.1 HIT.out).1
      have hi2 := (List.getElem?_eq_some_iff.1 HIU.out).1
      have HOV := Lib.hid (over_own (hlr.bag.row it tv t.place (by rw [List.getElem?_append_left hi1]; exact HIT.out)) (hlr.bag.row iu uv t.size (by rw [List.getElem?_append_left hi2]; exact HIU.out)) HT.out top xb htop hxn)
      clear hxx hxr hrcell hrbl hbx hlr hbr hkr hqr hml hi1 hi2 hk
      cases hov : t.over top xb
      · rw [hov] at HOV HFT
        go_wp2_with (go_at_call 20; refine HOV.out.mono ?_; rintro e w3 ⟨rfl, hb3⟩)
        go_roundw
        case rel =>
          refine ⟨k + 1, la, lc, m, by omega, by go_num, rfl, ?_, by omega, ?_, HBR.out.trans (hb3.mono (Nat.le_trans HBW.out HBR.out.size)), HKR.out.below hb3, HQR.out, ?_⟩
          · rw [HFT.out]; simpa using HML.out
          · rw [HFT.out]; simp
          · rw [HFT.out]; simpa using HLR.out.below hb3
        case measure => simp [intOf]; omega
      · rw [hov] at HOV HFT
        have HFT2 := Lib.hid (show (row.take (k + 1)).filter (fun b => t.over top b) = (row.take k).filter (fun b => t.over top b) ++ [(xb : Int)] from by have h := HFT.out; rw [if_pos rfl] at h; exact h)
        clear HFT
        go_upto_region 8 with (go_at_call 20; refine HOV.out.mono ?_; rintro e w3 ⟨rfl, hb3⟩)
        have HB3 := Lib.hid (HBR.out.trans (hb3.mono (Nat.le_trans HBW.out HBR.out.size)))
        have HL3 := Lib.hid (HLR.out.below hb3)
        have HK3 := Lib.hid (HKR.out.below hb3)
        clear hb3 HBR HLR HKR r1 b1 b2 hPl
        have hBw3 : B ≤ w3.heap.size := Nat.le_trans HBW.out HB3.out.size
        go_wp2_with (at_builtin; refine wpList_append_lies _ rfl _ _ 35 rfl B 3 i0 (.int .i64 0) 1 8 Try.underlying35 HI.out HZ0.out HZ1.out HZ2.out rfl (by decide) _ m (((row.take k).filter (fun b => t.over top b)).map iV) rfl ?hown ⟨w3.heap.size, 0, none⟩ 1 1 [.int .i64 xb] rfl rfl ?hnews (one_int _) (by decide) ?h63 ?hby ?hba (w3.heap.size + 1) ?hH ?_)
        case hown =>
          have h9 := (HL3.out.below ((Below.refl _ _).alloc (Nat.le_refl _) (.cells #[.int .i64 xb] 3 (0, 0)))).bag.row rs.length (.slice la m lc) ((row.take k).filter (fun b => t.over top b)) (by simp)
          rw [HML.out] at h9
          exact h9
        all_goals try (case hnews => exact World.news_of_block (cs := #[.int .i64 xb]) (alloc_at _ _ _ rfl))
        all_goals try (case h63 => unfold maxLen; omega)
        all_goals try (case hby => omega)
        all_goals try (case hba => first | omega | (simp; omega))
        all_goals try (case hH => simp)
        intro b4 cap4 w4 hown4 hgr4 hat4 hlt4
        have hoa := HL3.out.below ((Below.refl _ _).alloc (Nat.le_refl _) (.cells #[.int .i64 xb] 3 (0, 0)))
        have hr4 := hoa.bag.row rs.length (.slice la m lc) ((row.take k).filter (fun b => t.over top b)) (by simp)
        have HL4 := Lib.hid (hoa.applast HIRS.out HML.out xb hown4 hgr4 (by rcases hat4 with h | h; exact .inl h; exact .inr (by simp; omega)))
        have HB4 := Lib.hid ((HB3.out.alloc hBw3 _).grown hgr4 (by simp; omega) (fun k hk => (hr4.lt k hk).1))
        have HK4 := Lib.hid (HK3.out.grown (.cells #[.int .i64 xb] 3 (0, 0)) hgr4 (fun q e => HQR.out q e))
        have HQ4 := Lib.hid (show ∀ q, (Value.slice (some ⟨b4, 0, none⟩) (m + 1) cap4).ownBlock = some q → w.heap.size ≤ q from fun q e => by
          have e' : b4 = q := Option.some.inj e
          subst e'
          rcases hat4 with h | h
          · exact HQR.out _ h
          · have := HK3.out.1
            have h2 : (w3.alloc (.cells #[.int .i64 xb] 3 (0, 0))).heap.size = w3.heap.size + 1 := by simp
            omega)
        clear hoa hr4 hown4 hgr4 hat4 hlt4 HL3 HB3 HK3
        go_wp2_with (fail)
        go_roundw
        case rel =>
          refine ⟨k + 1, some ⟨b4, 0, none⟩, cap4, m + 1, by omega, by go_num, rfl, ?_, by omega, ?_, HB4.out, HK4.out, HQ4.out, ?_⟩
          · rw [HFT2.out, List.length_append, HML.out]; rfl
          · rw [HFT2.out]; simp
          · rw [HFT2.out]; exact HL4.out
        case measure => simp [intOf]; omega
    · obtain rfl : k = row.length := by omega
      rw [List.take_length, ← HFIRST.out] at hml hlr ⊢
      have HLR := Lib.hid hlr; have HBR := Lib.hid hbr; have HKR := Lib.hid hkr; have HQR := Lib.hid hqr; have HML := Lib.hid hml
      have HFR := Lib.hid (show ∀ x ∈ first, 0 ≤ x ∧ x < (n : Int) from fun x hx => by rw [HFIRST.out] at hx; exact HINR.out row (List.mem_of_getElem? HROW.out) x (List.mem_filter.1 hx).1)
      clear hk hkl hml hbr hkr hqr hlr b0 hPl
      obtain ⟨bt, hbt⟩ : ∃ b, b = !first.isEmpty := ⟨_, rfl⟩
      rw [← hbt]
      have HBT := Lib.hid hbt
      clear hbt
      go_wp2_with (fail)
      go_loopg [6] K (fun k lv wx => ∃ (left : List Int) (l2 : Lo) (rs2 : List (Value × List Int)) (la : Option Addr) (lc m : Nat), lv = .slice la m lc ∧ left.length = m ∧ findOk t ins top k left l2 = true ∧ Lo.find t ins top k left l2 = fin ∧ l2.ok n ∧ (∀ x ∈ left, 0 ≤ x ∧ x < (n : Int)) ∧ Below B w wx ∧ KeptL (.slice (some ⟨og, 0, none⟩) n oc) (.slice (some ⟨fg, 0, none⟩) n fc) w wx ∧ (∀ q, (Value.slice la m lc).ownBlock = some q → w.heap.size ≤ q) ∧ LoAt B wx P G tv uv (.slice (some ⟨og, 0, none⟩) n oc) (.slice (some ⟨fg, 0, none⟩) n fc) l2 (rs2 ++ [(.slice la m lc, left)]) i ∧ Rest2 i rs rs2)
      case atStart => exact ⟨first, l, rs, la, lc, m, rfl, HML.out, HFO.out, HFIN.out.symm, HOK.out, HFR.out, HBR.out, HKR.out, HQR.out, HLR.out, Rest2.refl _ _⟩
      case round =>
        clear HLR HBR HKR HQR HML HFR
        obtain ⟨left, l2, rs2, la2, lc2, m2, rfl, hml, hfo, hfi, hok2, hlin, hbr, hkr, hqr, hlr, hrr⟩ := hrel
        have HLR := Lib.hid hlr; have HBR := Lib.hid hbr; have HKR := Lib.hid hkr; have HQR := Lib.hid hqr; have HML := Lib.hid hml; have HR2 := Lib.hid hrr; have HOK2 := Lib.hid hok2; have HLIN := Lib.hid hlin; have HFO2 := Lib.hid hfo; have HFI2 := Lib.hid hfi
        clear hml hfo hfi hok2 hlin hbr hkr hqr hlr hrr
        by_cases hm0 : m2 = 0
        · subst hm0
          have HE := Lib.hid (show l2 = fin from by
            have h1 := HFI2.out
            rw [List.length_eq_zero_iff.1 HML.out, find_nil] at h1
            exact h1)
          have hi2 : i + 1 < rs2.length := by rw [HR2.out.1]; exact HIRS.out
          go_wp2_with (fail)
          go_ret
          rw [← HE.out]
          refine ⟨?_, HBR.out, HKR.out, rs2, HLR.out.front hi2, HR2.out⟩
          show Ending.returned (.bool bt) = _
          rw [HBT.out]
        · have hL1 : (0 : Int) < (m2 : Int) := by omega
          have hne : left ≠ [] := fun e => by have := HML.out; rw [e] at this; exact hm0 this.symm
          obtain ⟨g', hg'⟩ : ∃ g', gk = g' + 1 := by
            cases gk with
            | zero => have h1 := HFO2.out; unfold findOk at h1; exact absurd (List.isEmpty_iff.1 h1) hne
            | succ k => exact ⟨k, rfl⟩
          subst hg'
          obtain ⟨hm6, hre, hnext⟩ := findOk_step hne HFO2.out
          have hfnext := HFI2.out
          rw [find_step hne] at hfnext
          rw [HML.out] at hm6 hnext hfnext
          obtain ⟨q, hq⟩ : ∃ q, m2 = q + 1 := ⟨m2 - 1, by omega⟩
          have hlast := last_get (HML.out.trans hq)
          have hcr := HLIN.out _ (last_mem hne)
          obtain ⟨c, hc⟩ : ∃ c : Nat, left.getLastD 0 = c := ⟨(left.getLastD 0).toNat, by omega⟩
          rw [hc] at hlast hcr hre hnext hfnext
          have hcn : c < n := by omega
          have hfok := farthest_ok l2.far.length l2.far c HOK2.out.fl HOK2.out.fin hcn
          obtain ⟨res, hres⟩ : ∃ r, r = Lo.farthest l2.far.length l2.far c := ⟨_, rfl⟩
          rw [← hres] at hnext hfnext hfok
          obtain ⟨d, far2⟩ := res
          dsimp only at hnext hfnext hfok
          obtain ⟨dn, rfl⟩ : ∃ dn : Nat, d = dn := ⟨d.toNat, by omega⟩
          have hdn : dn < n := by omega
          have hdi : (dn : Int) < (n : Int) := by omega
          have hi2 : i + 1 < rs2.length := by rw [HR2.out.1]; exact HIRS.out
          have hlrow := HLR.out.bag.row rs2.length (.slice la2 m2 lc2) left (by simp)
          obtain ⟨pg, hpa, hcap⟩ := own_head hlrow (by rw [HML.out]; omega)
          subst hpa
          obtain ⟨c5, _, _, _⟩ := own_at hlrow hlast
          have hm1 : (q : Int) < (m2 : Int) := by omega
          have hmc : (q : Int) ≤ (lc2 : Int) := by omega
          have HWM := Lib.hid (show wrap64 ((m2 : Int) - 1) = (q : Int) from by rw [hq]; rw [show (((q + 1 : Nat) : Int) - 1) = (q : Int) by omega]; exact Go.IntWalk.wrap64_in (q : Int) (by omega))
          have HFAR := Lib.hid (farthest_any HLR.out HOK2.out hn c hcn l2.far.length hre)
          rw [← hres] at HFAR
          have HQ := Lib.hid hq; have HNEXT := Lib.hid hnext; have HFN := Lib.hid hfnext; have HFOK := Lib.hid hfok; have HI2 := Lib.hid hi2; have HM6 := Lib.hid hm6
          clear hq hlast hcr hc hfok hres hnext hfnext hre hlrow hcap hne hm0 hi2 hm6
          have hwm : wrap64 ((m2 : Int) - 1) = (q : Int) := HWM.out
          go_upto_region 13 with (go_at_call 26; refine HFAR.out.mono ?_; rintro e w3 ⟨rfl, hb3, hk3, rs3, hl3, hr3⟩)
          clear hwm c5
          obtain ⟨hsn, hr4⟩ := rest2_snoc hr3 HI2.out
          rw [hsn] at hl3
          generalize rs3.take rs2.length = rs4 at hl3 hr4
          have HR4 := Lib.hid (HR2.out.trans hr4)
          have HI4 := Lib.hid (show i + 1 < rs4.length from by rw [hr4.1]; exact HI2.out)
          have HL3 := Lib.hid (hl3.takelast (m := q) HI4.out HML.out (by have := HQ.out; omega))
          have HB3 := Lib.hid (HBR.out.trans hb3)
          have HK3 := Lib.hid (HKR.out.trans hk3)
          have HLF := Lib.hid (show (left.take q).length = q from by rw [List.length_take, HML.out]; have := HQ.out; omega)
          have HLIN2 := Lib.hid (show ∀ x ∈ left.take q, 0 ≤ x ∧ x < (n : Int) from fun x hx => HLIN.out x (List.mem_of_mem_take hx))
          have HOK3 := Lib.hid (show Lo.ok ⟨l2.outer, far2⟩ n from ⟨HOK2.out.ol, HFOK.out.1.1, HFOK.out.1.2, HOK2.out.oin⟩)
          have HQ3 := Lib.hid (show ∀ q', (Value.slice (some ⟨pg, 0, none⟩) q lc2).ownBlock = some q' → w.heap.size ≤ q' from fun q' e => HQR.out q' e)
          have hq1 : m2 - 1 = q := by have := HQ.out; omega
          rw [hq1] at HNEXT HFN
          clear hsn hl3 hr3 hr4 hb3 hk3 HLR HBR HKR hq1
          by_cases hdt : dn = top
          · subst hdt
            rw [if_pos rfl] at HNEXT HFN
            have qd : ((dn : Int) == (dn : Int)) = true := by simp
            go_wp2_with (fail)
            go_roundg g'
            case measure => omega
            case rel => exact ⟨left.take q, ⟨l2.outer, far2⟩, rs4, some ⟨pg, 0, none⟩, lc2, q, rfl, HLF.out, HNEXT.out, HFN.out, HOK3.out, HLIN2.out, HB3.out, HK3.out, HQ3.out, HL3.out, HR4.out⟩
          · have hne2 : ¬ ((dn : Int) = (top : Int)) := by omega
            rw [if_neg hne2, Int.toNat_natCast] at HNEXT HFN
            have qd : ((dn : Int) == (top : Int)) = false := by simp; omega
            go_upto_region 14 with (fail)
            clear qd hne2
            refine wp_region_by (by kernel_rfl) (lV P og fg n oc fc dn top) (LI B w P G tv uv (.slice (some ⟨og, 0, none⟩) n oc) (.slice (some ⟨fg, 0, none⟩) n fc) ⟨l2.outer, far2⟩ i rs (.slice (some ⟨pg, 0, none⟩) q lc2, left.take q) dn (top : Int)) 0 (fun _ => rfl) (by kernel_rfl) ?p0 ?psteps ?pdone
            case p0 => exact ⟨⟨HB3.out.os, HB3.out.tape, HB3.out.output, HB3.out.size, HB3.out.block⟩, HK3.out, rs4, HL3.out.below ⟨rfl, rfl, rfl, Nat.le_refl _, fun _ _ => rfl⟩, HR4.out⟩
            case pdone =>
              intro gg w5 hI
              obtain ⟨rs5, hl5, hr5⟩ := hI.at'
              have HB5 := Lib.hid hI.low; have HK5 := Lib.hid hI.kept; have HR5 := Lib.hid hr5
              have HL5 := Lib.hid (show LoAt B w5 P G tv uv (.slice (some ⟨og, 0, none⟩) n oc) (.slice (some ⟨fg, 0, none⟩) n fc) ⟨l2.outer.set dn (top : Int), far2.set dn (top : Int)⟩ (rs5 ++ [(.slice (some ⟨pg, 0, none⟩) q lc2, left.take q)]) i from hl5)
              have HI5 := Lib.hid (show i + 1 < rs5.length from by rw [hr5.1]; exact HIRS.out)
              have HOK5 := Lib.hid (show Lo.ok ⟨l2.outer.set dn (top : Int), far2.set dn (top : Int)⟩ n from ⟨by dsimp only; rw [List.length_set]; exact HOK3.out.ol, by dsimp only; rw [List.length_set]; exact HOK3.out.fl, mem_set HOK3.out.fin dn (by omega), fun x hx => by
                rcases List.mem_or_eq_of_mem_set hx with hx | rfl
                · exact HOK3.out.oin x hx
                · exact .inr (by omega)⟩)
              clear hI hl5 hr5 HL3 HB3 HK3
              simp only [full, lV, Act.put, List.setIfInBounds_toArray, List.set_cons_zero, List.set_cons_succ]
              obtain ⟨row2, hrow2⟩ : ∃ r, ins[dn]? = some r := ⟨_, List.getElem?_eq_getElem (by rw [HIL.out]; exact hdn)⟩
              obtain ⟨hrl2, ra2, rc2, hcr2, hrr2⟩ := HINS.out dn row2 hrow2
              have hbx := HL5.out.box
              have e0 : w5.cell? ⟨P, 0, none⟩ = some (.pointer (some ⟨G, 0, none⟩)) := cell_ok hbx 0
              have hPl := lt_heap hbx
              have e1 := (HB5.out.cell (p := ⟨G, 1, none⟩) hg).trans hgc
              have e2 := (HB5.out.cell (p := ⟨ig, dn, none⟩) hig).trans hcr2
              have e3 := Nat.lt_of_lt_of_le hGl HB5.out.size
              have e4 := Nat.lt_of_lt_of_le higl HB5.out.size
              have HRR2 := Lib.hid hrr2; have HROW2 := Lib.hid hrow2
              have hq6 : q ≤ 1000000 := by have := HM6.out; have := HQ.out; omega
              have hgr2 : gr ins (dn : Int) = row2 := by unfold gr; rw [Int.toNat_natCast, List.getD_eq_getElem?_getD, hrow2]; rfl
              rw [hgr2] at HNEXT HFN
              clear hbx hrr2 hrow2 hgr2 hcr2
              go_wp2_with (fail)
              clear e0 e1 e2 e3 e4 hPl
              go_loopw [6, 83] (fun lv iv wr => ∃ (k : Nat) (la : Option Addr) (lc m : Nat), k ≤ row2.length ∧ iv = .int .i64 k ∧ lv = .slice la m lc ∧ (left.take q ++ (row2.take k).filter (fun b => t.over top b)).length = m ∧ m ≤ q + k ∧ Below B w wr ∧ KeptL (.slice (some ⟨og, 0, none⟩) n oc) (.slice (some ⟨fg, 0, none⟩) n fc) w wr ∧ (∀ q', (Value.slice la m lc).ownBlock = some q' → w.heap.size ≤ q') ∧ LoAt B wr P G tv uv (.slice (some ⟨og, 0, none⟩) n oc) (.slice (some ⟨fg, 0, none⟩) n fc) ⟨l2.outer.set dn (top : Int), far2.set dn (top : Int)⟩ (rs5 ++ [(.slice la m lc, left.take q ++ (row2.take k).filter (fun b => t.over top b))]) i) (fun _ iv _ => row2.length - (intOf iv).toNat)
              case atStart => exact ⟨0, some ⟨pg, 0, none⟩, lc2, q, Nat.zero_le _, rfl, rfl, by simpa using HLF.out, by omega, HB5.out, HK5.out, HQ3.out, by simpa using HL5.out⟩
              case round =>
                obtain ⟨k, la, lc, m, hk, rfl, rfl, hml, hmk, hbr, hkr, hqr, hlr⟩ := hrel
                have HLR := Lib.hid hlr; have HBR := Lib.hid hbr; have HKR := Lib.hid hkr; have HQR3 := Lib.hid hqr; have HML3 := Lib.hid hml
                by_cases hkl : k < row2.length
                · have hki : (k : Int) < (row2.length : Int) := by omega
                  obtain ⟨rb, hra, hrb, hrbl, hrcell⟩ := HRR2.out (fun e => by rw [e] at hkl; simp at hkl)
                  subst hra
                  obtain ⟨xx, hxx⟩ : ∃ x, row2[k]? = some x := ⟨_, List.getElem?_eq_getElem hkl⟩
                  have hxr := HINR.out row2 (List.mem_of_getElem? HROW2.out) xx (List.mem_of_getElem? hxx)
                  obtain ⟨xb, rfl⟩ : ∃ xb : Nat, xx = xb := ⟨xx.toNat, by omega⟩
                  have hxn : xb < n := by omega
                  have r1 := (hbr.cell (p := ⟨rb, k, none⟩) hrb).trans (hrcell k xb hxx)
                  have HFT := Lib.hid (filter_take (f := fun b => t.over top b) hxx)
                  have hbx := hlr.box
                  have b1 : wr.cell? ⟨P, 1, none⟩ = some tv := cell_ok hbx 1
                  have b2 : wr.cell? ⟨P, 2, none⟩ = some uv := cell_ok hbx 2
                  have hPl := lt_heap hbx
                  have hi1 := (List.getElem?_eq_some_iff.1 HIT.out).1
                  have hi2 := (List.getElem?_eq_some_iff.1 HIU.out).1
                  have hit5 : rs5[it]? = some (tv, t.place) := (HR5.out.2 it HDIS.out.1 HDIS.out.2.1).trans HIT.out
                  have hiu5 : rs5[iu]? = some (uv, t.size) := (HR5.out.2 iu HDIS.out.2.2.1 HDIS.out.2.2.2).trans HIU.out
                  have HOV := Lib.hid (over_own (hlr.bag.row it tv t.place (by rw [List.getElem?_append_left (List.getElem?_eq_some_iff.1 hit5).1]; exact hit5)) (hlr.bag.row iu uv t.size (by rw [List.getElem?_append_left (List.getElem?_eq_some_iff.1 hiu5).1]; exact hiu5)) HT.out top xb htop hxn)
                  clear hxx hxr hrcell hrbl hbx hlr hbr hkr hqr hml hi1 hi2 hk hit5 hiu5
                  cases hov : t.over top xb
                  · rw [hov] at HOV HFT
                    have HFT2 := Lib.hid (show (row2.take (k + 1)).filter (fun b => t.over top b) = (row2.take k).filter (fun b => t.over top b) from by have h := HFT.out; simpa using h)
                    clear HFT
                    go_wp2_with (go_at_call 20; refine HOV.out.mono ?_; rintro e w3 ⟨rfl, hb3⟩)
                    go_roundw
                    case rel =>
                      refine ⟨k + 1, la, lc, m, by omega, by go_num, rfl, ?_, by omega, HBR.out.trans (hb3.mono (Nat.le_trans HBW.out HBR.out.size)), HKR.out.below hb3, HQR3.out, ?_⟩
                      · rw [HFT2.out]; exact HML3.out
                      · rw [HFT2.out]; exact HLR.out.below hb3
                    case measure => simp [intOf]; omega
                  · rw [hov] at HOV HFT
                    have HFT2 := Lib.hid (show (row2.take (k + 1)).filter (fun b => t.over top b) = (row2.take k).filter (fun b => t.over top b) ++ [(xb : Int)] from by have h := HFT.out; rw [if_pos rfl] at h; exact h)
                    obtain ⟨ls, hls⟩ : ∃ x, x = left.take q ++ (row2.take k).filter (fun b => t.over top b) := ⟨_, rfl⟩
                    rw [← hls] at HLR HML3
                    have HLS := Lib.hid hls
                    clear HFT hls
                    go_upto_region 19 with (go_at_call 20; refine HOV.out.mono ?_; rintro e w3 ⟨rfl, hb3⟩)
                    have HB3 := Lib.hid (HBR.out.trans (hb3.mono (Nat.le_trans HBW.out HBR.out.size)))
                    have HL3 := Lib.hid (HLR.out.below hb3)
                    have HK3 := Lib.hid (HKR.out.below hb3)
                    clear hb3 HBR HLR HKR r1 b1 b2 hPl
                    have hBw3 : B ≤ w3.heap.size := Nat.le_trans HBW.out HB3.out.size
                    go_wp2_with (at_builtin; refine wpList_append_lies _ rfl _ _ 35 rfl B 3 i0 (.int .i64 0) 1 8 Try.underlying35 HI.out HZ0.out HZ1.out HZ2.out rfl (by decide) _ m (ls.map iV) rfl ?hown ⟨w3.heap.size, 0, none⟩ 1 1 [.int .i64 xb] rfl rfl ?hnews (one_int _) (by decide) ?h63 ?hby ?hba (w3.heap.size + 1) ?hH ?_)
                    case hown =>
                      have h9 := (HL3.out.below ((Below.refl _ _).alloc (Nat.le_refl _) (.cells #[.int .i64 xb] 3 (0, 0)))).bag.row rs5.length (.slice la m lc) ls (by simp)
                      rw [HML3.out] at h9
                      exact h9
                    all_goals try (case hnews => exact World.news_of_block (cs := #[.int .i64 xb]) (alloc_at _ _ _ rfl))
                    all_goals try (case h63 => unfold maxLen; omega)
                    all_goals try (case hby => omega)
                    all_goals try (case hba => first | omega | (simp; omega))
                    all_goals try (case hH => simp)
                    intro b4 cap4 w4 hown4 hgr4 hat4 hlt4
                    have hoa := HL3.out.below ((Below.refl _ _).alloc (Nat.le_refl _) (.cells #[.int .i64 xb] 3 (0, 0)))
                    have hr4 := hoa.bag.row rs5.length (.slice la m lc) ls (by simp)
                    have HL4 := Lib.hid (hoa.applast HI5.out HML3.out xb hown4 hgr4 (by rcases hat4 with h | h; exact .inl h; exact .inr (by simp; omega)))
                    have HB4 := Lib.hid ((HB3.out.alloc hBw3 _).grown hgr4 (by simp; omega) (fun k hk => (hr4.lt k hk).1))
                    have HK4 := Lib.hid (HK3.out.grown (.cells #[.int .i64 xb] 3 (0, 0)) hgr4 (fun q e => HQR3.out q e))
                    have HQ4 := Lib.hid (show ∀ q', (Value.slice (some ⟨b4, 0, none⟩) (m + 1) cap4).ownBlock = some q' → w.heap.size ≤ q' from fun q' e => by
                      have e' : b4 = q' := Option.some.inj e
                      subst e'
                      rcases hat4 with h | h
                      · exact HQR3.out _ h
                      · have := HK3.out.1
                        have h2 : (w3.alloc (.cells #[.int .i64 xb] 3 (0, 0))).heap.size = w3.heap.size + 1 := by simp
                        omega)
                    clear hoa hr4 hown4 hgr4 hat4 hlt4 HL3 HB3 HK3
                    go_wp2_with (fail)
                    go_roundw
                    case rel =>
                      refine ⟨k + 1, some ⟨b4, 0, none⟩, cap4, m + 1, by omega, by go_num, rfl, ?_, by omega, HB4.out, HK4.out, HQ4.out, ?_⟩
                      · rw [HFT2.out, ← List.append_assoc, ← HLS.out, List.length_append, HML3.out]; rfl
                      · rw [HFT2.out, ← List.append_assoc, ← HLS.out]; exact HL4.out
                    case measure => simp [intOf]; omega
                · obtain rfl : k = row2.length := by omega
                  rw [List.take_length] at HLR HML3
                  have HLIN5 := Lib.hid (show ∀ x ∈ left.take q ++ row2.filter (fun b => t.over top b), 0 ≤ x ∧ x < (n : Int) from fun x hx => by
                    rcases List.mem_append.1 hx with hx | hx
                    · exact HLIN2.out x hx
                    · exact HINR.out row2 (List.mem_of_getElem? HROW2.out) x (List.mem_filter.1 hx).1)
                  clear hlr hbr hkr hqr hml hk hkl
                  go_wp2_with (fail)
                  go_roundg g'
                  case measure => omega
                  case rel => exact ⟨left.take q ++ row2.filter (fun b => t.over top b), ⟨l2.outer.set dn (top : Int), far2.set dn (top : Int)⟩, rs5, la, lc, m, rfl, HML3.out, HNEXT.out, HFN.out, HOK5.out, HLIN5.out, HBR.out, HKR.out, HQR3.out, HLR.out, HR5.out⟩
            case psteps =>
              refine (Steps.cons (k' := 1) ?s0 rfl (Steps.cons (k' := 2) ?s1 rfl (Steps.cons (k' := 3) ?s2 rfl (Steps.cons (k' := 4) ?s3 rfl (Steps.cons (k' := 5) ?s4 rfl (Steps.cons (k' := 6) ?s5 rfl (Steps.cons (k' := 7) ?s6 rfl (Steps.cons (k' := 8) ?s7 rfl (Steps.cons (k' := 9) ?s8 rfl (Steps.cons (k' := 10) ?s9 rfl (Steps.cons (k' := 11) ?s10 rfl (Steps.cons (k' := 12) ?s11 rfl (Steps.cons (k' := 13) ?s12 rfl (Steps.cons (k' := 14) ?s13 rfl (Steps.cons (k' := 15) ?s14 rfl (Steps.cons (k' := 16) ?s15 rfl Steps.nil))))))))))))))))
              case s0 =>
                intro L g w' hL hd hcl hI K hK
                simp only [full, lV, Act.put, List.setIfInBounds_toArray, List.set_cons_zero, List.set_cons_succ] at hK ⊢
                obtain ⟨rsx, hlx, hrx⟩ := hI.at'
                have hbx := hlx.box
                have b3 : w'.cell? ⟨P, 3, none⟩ = some (.slice (some ⟨og, 0, none⟩) n oc) := cell_ok hbx 3
                have b4 : w'.cell? ⟨P, 4, none⟩ = some (.slice (some ⟨fg, 0, none⟩) n fc) := cell_ok hbx 4
                have hPl := lt_heap hbx
                have HLX := Lib.hid hlx; have HRX := Lib.hid hrx
                clear hbx hlx hrx
                have HL := Lib.hid hL; have HD := Lib.hid hd; have HC := Lib.hid hcl; have HJ := Lib.hid hI; have HK := Lib.hid hK
                clear hL hd hcl hI hK
                go_simp
                exact HK.out _ _ g rfl (fun _ _ => by first | rfl | trivial) (HJ.out.skip (by decide))
              case s1 =>
                intro L g w' hL hd hcl hI K hK
                simp only [full, lV, Act.put, List.setIfInBounds_toArray, List.set_cons_zero, List.set_cons_succ] at hK ⊢
                obtain ⟨rsx, hlx, hrx⟩ := hI.at'
                have hbx := hlx.box
                have b3 : w'.cell? ⟨P, 3, none⟩ = some (.slice (some ⟨og, 0, none⟩) n oc) := cell_ok hbx 3
                have b4 : w'.cell? ⟨P, 4, none⟩ = some (.slice (some ⟨fg, 0, none⟩) n fc) := cell_ok hbx 4
                have hPl := lt_heap hbx
                have HLX := Lib.hid hlx; have HRX := Lib.hid hrx
                clear hbx hlx hrx
                have HL := Lib.hid hL; have HD := Lib.hid hd; have HC := Lib.hid hcl; have HJ := Lib.hid hI; have HK := Lib.hid hK
                clear hL hd hcl hI hK
                go_simp
                exact HK.out _ _ g rfl (fun _ _ => by first | rfl | trivial) (HJ.out.skip (by decide))
              case s2 =>
                intro L g w' hL hd hcl hI K hK
                simp only [full, lV, Act.put, List.setIfInBounds_toArray, List.set_cons_zero, List.set_cons_succ] at hK ⊢
                obtain ⟨rsx, hlx, hrx⟩ := hI.at'
                have hbx := hlx.box
                have b3 : w'.cell? ⟨P, 3, none⟩ = some (.slice (some ⟨og, 0, none⟩) n oc) := cell_ok hbx 3
                have b4 : w'.cell? ⟨P, 4, none⟩ = some (.slice (some ⟨fg, 0, none⟩) n fc) := cell_ok hbx 4
                have hPl := lt_heap hbx
                have HLX := Lib.hid hlx; have HRX := Lib.hid hrx
                clear hbx hlx hrx
                have HL := Lib.hid hL; have HD := Lib.hid hd; have HC := Lib.hid hcl; have HJ := Lib.hid hI; have HK := Lib.hid hK
                clear hL hd hcl hI hK
                go_simp
                exact HK.out _ _ g rfl (fun _ _ => by first | rfl | trivial) (HJ.out.skip (by decide))
              case s3 =>
                intro L g w' hL hd hcl hI K hK
                simp only [full, lV, Act.put, List.setIfInBounds_toArray, List.set_cons_zero, List.set_cons_succ] at hK ⊢
                obtain ⟨rsx, hlx, hrx⟩ := hI.at'
                have hbx := hlx.box
                have b3 : w'.cell? ⟨P, 3, none⟩ = some (.slice (some ⟨og, 0, none⟩) n oc) := cell_ok hbx 3
                have b4 : w'.cell? ⟨P, 4, none⟩ = some (.slice (some ⟨fg, 0, none⟩) n fc) := cell_ok hbx 4
                have hPl := lt_heap hbx
                have HLX := Lib.hid hlx; have HRX := Lib.hid hrx
                clear hbx hlx hrx
                have HL := Lib.hid hL; have HD := Lib.hid hd; have HC := Lib.hid hcl; have HJ := Lib.hid hI; have HK := Lib.hid hK
                clear hL hd hcl hI hK
                go_simp
                exact HK.out _ _ g rfl (fun _ _ => by first | rfl | trivial) (HJ.out.skip (by decide))
              case s4 =>
                intro L g w' hL hd hcl hI K hK
                simp only [full, lV, Act.put, List.setIfInBounds_toArray, List.set_cons_zero, List.set_cons_succ] at hK ⊢
                obtain ⟨rsx, hlx, hrx⟩ := hI.at'
                have hbx := hlx.box
                have b3 : w'.cell? ⟨P, 3, none⟩ = some (.slice (some ⟨og, 0, none⟩) n oc) := cell_ok hbx 3
                have b4 : w'.cell? ⟨P, 4, none⟩ = some (.slice (some ⟨fg, 0, none⟩) n fc) := cell_ok hbx 4
                have hPl := lt_heap hbx
                have HLX := Lib.hid hlx; have HRX := Lib.hid hrx
                clear hbx hlx hrx
                have HL := Lib.hid hL; have HD := Lib.hid hd; have HC := Lib.hid hcl; have HJ := Lib.hid hI; have HK := Lib.hid hK
                clear hL hd hcl hI hK
                go_simp
                exact HK.out _ _ g rfl (fun _ _ => by first | rfl | trivial) (HJ.out.skip (by decide))
              case s5 =>
                intro L g w' hL hd hcl hI K hK
                simp only [full, lV, Act.put, List.setIfInBounds_toArray, List.set_cons_zero, List.set_cons_succ] at hK ⊢
                obtain ⟨rsx, hlx, hrx⟩ := hI.at'
                have hbx := hlx.box
                have b3 : w'.cell? ⟨P, 3, none⟩ = some (.slice (some ⟨og, 0, none⟩) n oc) := cell_ok hbx 3
                have b4 : w'.cell? ⟨P, 4, none⟩ = some (.slice (some ⟨fg, 0, none⟩) n fc) := cell_ok hbx 4
                have hPl := lt_heap hbx
                have HLX := Lib.hid hlx; have HRX := Lib.hid hrx
                clear hbx hlx hrx
                have HL := Lib.hid hL; have HD := Lib.hid hd; have HC := Lib.hid hcl; have HJ := Lib.hid hI; have HK := Lib.hid hK
                clear hL hd hcl hI hK
                go_simp
                exact HK.out _ _ g rfl (fun _ _ => by first | rfl | trivial) (HJ.out.skip (by decide))
              case s6 =>
                intro L g w' hL hd hcl hI K hK
                simp only [full, lV, Act.put, List.setIfInBounds_toArray, List.set_cons_zero, List.set_cons_succ] at hK ⊢
                obtain ⟨rsx, hlx, hrx⟩ := hI.at'
                have hbx := hlx.box
                have b3 : w'.cell? ⟨P, 3, none⟩ = some (.slice (some ⟨og, 0, none⟩) n oc) := cell_ok hbx 3
                have b4 : w'.cell? ⟨P, 4, none⟩ = some (.slice (some ⟨fg, 0, none⟩) n fc) := cell_ok hbx 4
                have hPl := lt_heap hbx
                have HLX := Lib.hid hlx; have HRX := Lib.hid hrx
                clear hbx hlx hrx
                have HL := Lib.hid hL; have HD := Lib.hid hd; have HC := Lib.hid hcl; have HJ := Lib.hid hI; have HK := Lib.hid hK
                clear hL hd hcl hI hK
                go_simp
                exact HK.out _ _ g rfl (fun _ _ => by first | rfl | trivial) (HJ.out.skip (by decide))
              case s7 =>
                intro L g w' hL hd hcl hI K hK
                simp only [full, lV, Act.put, List.setIfInBounds_toArray, List.set_cons_zero, List.set_cons_succ] at hK ⊢
                obtain ⟨rsx, hlx, hrx⟩ := hI.at'
                have hbx := hlx.box
                have b3 : w'.cell? ⟨P, 3, none⟩ = some (.slice (some ⟨og, 0, none⟩) n oc) := cell_ok hbx 3
                have b4 : w'.cell? ⟨P, 4, none⟩ = some (.slice (some ⟨fg, 0, none⟩) n fc) := cell_ok hbx 4
                have hPl := lt_heap hbx
                have HLX := Lib.hid hlx; have HRX := Lib.hid hrx
                clear hbx hlx hrx
                have HL := Lib.hid hL; have HD := Lib.hid hd; have HC := Lib.hid hcl; have HJ := Lib.hid hI; have HK := Lib.hid hK
                clear hL hd hcl hI hK
                go_simp
                exact HK.out _ _ g rfl (fun _ _ => by first | rfl | trivial) (HJ.out.skip (by decide))
              case s8 =>
                intro L g w' hL hd hcl hI K hK
                simp only [full, lV, Act.put, List.setIfInBounds_toArray, List.set_cons_zero, List.set_cons_succ] at hK ⊢
                obtain ⟨rsx, hlx, hrx⟩ := hI.at'
                have hbx := hlx.box
                have b3 : w'.cell? ⟨P, 3, none⟩ = some (.slice (some ⟨og, 0, none⟩) n oc) := cell_ok hbx 3
                have b4 : w'.cell? ⟨P, 4, none⟩ = some (.slice (some ⟨fg, 0, none⟩) n fc) := cell_ok hbx 4
                have hPl := lt_heap hbx
                have HLX := Lib.hid hlx; have HRX := Lib.hid hrx
                clear hbx hlx hrx
                have HL := Lib.hid hL; have HD := Lib.hid hd; have HC := Lib.hid hcl; have HJ := Lib.hid hI; have HK := Lib.hid hK
                clear hL hd hcl hI hK
                go_simp
                exact HK.out _ _ g rfl (fun _ _ => by first | rfl | trivial) (HJ.out.skip (by decide))
              case s9 =>
                intro L g w' hL hd hcl hI K hK
                simp only [full, lV, Act.put, List.setIfInBounds_toArray, List.set_cons_zero, List.set_cons_succ] at hK ⊢
                obtain ⟨rsx, hlx, hrx⟩ := hI.at'
                have hbx := hlx.box
                have b3 : w'.cell? ⟨P, 3, none⟩ = some (.slice (some ⟨og, 0, none⟩) n oc) := cell_ok hbx 3
                have b4 : w'.cell? ⟨P, 4, none⟩ = some (.slice (some ⟨fg, 0, none⟩) n fc) := cell_ok hbx 4
                have hPl := lt_heap hbx
                have HLX := Lib.hid hlx; have HRX := Lib.hid hrx
                clear hbx hlx hrx
                have HL := Lib.hid hL; have HD := Lib.hid hd; have HC := Lib.hid hcl; have HJ := Lib.hid hI; have HK := Lib.hid hK
                clear hL hd hcl hI hK
                go_simp
                exact HK.out _ _ g rfl (fun _ _ => by first | rfl | trivial) (HJ.out.skip (by decide))
              case s10 =>
                intro L g w' hL hd hcl hI K hK
                simp only [full, lV, Act.put, List.setIfInBounds_toArray, List.set_cons_zero, List.set_cons_succ] at hK ⊢
                obtain ⟨rsx, hlx, hrx⟩ := hI.at'
                have hbx := hlx.box
                have b3 : w'.cell? ⟨P, 3, none⟩ = some (.slice (some ⟨og, 0, none⟩) n oc) := cell_ok hbx 3
                have b4 : w'.cell? ⟨P, 4, none⟩ = some (.slice (some ⟨fg, 0, none⟩) n fc) := cell_ok hbx 4
                have hPl := lt_heap hbx
                have HLX := Lib.hid hlx; have HRX := Lib.hid hrx
                clear hbx hlx hrx
                have HL := Lib.hid hL; have HD := Lib.hid hd; have HC := Lib.hid hcl; have HJ := Lib.hid hI; have HK := Lib.hid hK
                clear hL hd hcl hI hK
                go_simp
                exact HK.out _ _ g rfl (fun _ _ => by first | rfl | trivial) (HJ.out.skip (by decide))
              case s11 =>
                intro L g w' hL hd hcl hI K hK
                simp only [full, lV, Act.put, List.setIfInBounds_toArray, List.set_cons_zero, List.set_cons_succ] at hK ⊢
                obtain ⟨rsx, hlx, hrx⟩ := hI.at'
                have hbx := hlx.box
                have b3 : w'.cell? ⟨P, 3, none⟩ = some (.slice (some ⟨og, 0, none⟩) n oc) := cell_ok hbx 3
                have b4 : w'.cell? ⟨P, 4, none⟩ = some (.slice (some ⟨fg, 0, none⟩) n fc) := cell_ok hbx 4
                have hPl := lt_heap hbx
                have HLX := Lib.hid hlx; have HRX := Lib.hid hrx
                clear hbx hlx hrx
                have HL := Lib.hid hL; have HD := Lib.hid hd; have HC := Lib.hid hcl; have HJ := Lib.hid hI; have HK := Lib.hid hK
                clear hL hd hcl hI hK
                go_simp
                exact HK.out _ _ g rfl (fun _ _ => by first | rfl | trivial) (HJ.out.skip (by decide))
              case s12 =>
                intro L g w' hL hd hcl hI K hK
                simp only [full, lV, Act.put, List.setIfInBounds_toArray, List.set_cons_zero, List.set_cons_succ] at hK ⊢
                obtain ⟨rsx, hlx, hrx⟩ := hI.at'
                have hbx := hlx.box
                have b3 : w'.cell? ⟨P, 3, none⟩ = some (.slice (some ⟨og, 0, none⟩) n oc) := cell_ok hbx 3
                have b4 : w'.cell? ⟨P, 4, none⟩ = some (.slice (some ⟨fg, 0, none⟩) n fc) := cell_ok hbx 4
                have hPl := lt_heap hbx
                have HLX := Lib.hid hlx; have HRX := Lib.hid hrx
                clear hbx hlx hrx
                have HL := Lib.hid hL; have HD := Lib.hid hd; have HC := Lib.hid hcl; have HJ := Lib.hid hI; have HK := Lib.hid hK
                clear hL hd hcl hI hK
                go_simp
                exact HK.out _ _ g rfl (fun _ _ => by first | rfl | trivial) (HJ.out.skip (by decide))
              case s13 =>
                intro L g w' hL hd hcl hI K hK
                simp only [full, lV, Act.put, List.setIfInBounds_toArray, List.set_cons_zero, List.set_cons_succ] at hK ⊢
                obtain ⟨rsx, hlx, hrx⟩ := hI.at'
                have hbx := hlx.box
                have b3 : w'.cell? ⟨P, 3, none⟩ = some (.slice (some ⟨og, 0, none⟩) n oc) := cell_ok hbx 3
                have b4 : w'.cell? ⟨P, 4, none⟩ = some (.slice (some ⟨fg, 0, none⟩) n fc) := cell_ok hbx 4
                have hPl := lt_heap hbx
                have HLX := Lib.hid hlx; have HRX := Lib.hid hrx
                clear hbx hlx hrx
                have hll : (stL ⟨l2.outer, far2⟩ dn (top : Int) (L 13) (L 15)).outer.length = n := by unfold stL; dsimp only; split <;> simp [HOK3.out.ol]
                obtain ⟨y, hy⟩ : ∃ y, (stL ⟨l2.outer, far2⟩ dn (top : Int) (L 13) (L 15)).outer[dn]? = some y := ⟨_, List.getElem?_eq_getElem (by rw [hll]; exact hdn)⟩
                obtain ⟨z1, z2, z3, z4⟩ := own_at (HLX.out.bag.row _ _ _ HLX.out.outer) hy
                have HLL := Lib.hid hll
                clear hll hy
                have HL := Lib.hid hL; have HD := Lib.hid hd; have HC := Lib.hid hcl; have HJ := Lib.hid hI; have HK := Lib.hid hK
                clear hL hd hcl hI hK
                go_simp
                refine HK.out _ _ g rfl (fun _ _ => by first | rfl | trivial) ⟨below_put HJ.out.low z3 _ _, HJ.out.kept.put (.inl rfl) dn _, ?_⟩
                have h1 := HLX.out.putouter HLL.out hdn (top : Int)
                have hi9 : i + 1 < rsx.length := by rw [HRX.out.1]; exact HIRS.out
                rw [List.set_append_left _ _ (by omega)] at h1
                have ea : setL L 13 13 = true := setL_eq
                have eb : setL L 13 15 = L 15 := setL_ne (by decide)
                rw [ea, eb]
                rw [HL.out] at h1
                exact ⟨_, h1, HRX.out.set (.inl rfl) _⟩
              case s14 =>
                intro L g w' hL hd hcl hI K hK
                simp only [full, lV, Act.put, List.setIfInBounds_toArray, List.set_cons_zero, List.set_cons_succ] at hK ⊢
                obtain ⟨rsx, hlx, hrx⟩ := hI.at'
                have hbx := hlx.box
                have b3 : w'.cell? ⟨P, 3, none⟩ = some (.slice (some ⟨og, 0, none⟩) n oc) := cell_ok hbx 3
                have b4 : w'.cell? ⟨P, 4, none⟩ = some (.slice (some ⟨fg, 0, none⟩) n fc) := cell_ok hbx 4
                have hPl := lt_heap hbx
                have HLX := Lib.hid hlx; have HRX := Lib.hid hrx
                clear hbx hlx hrx
                have HL := Lib.hid hL; have HD := Lib.hid hd; have HC := Lib.hid hcl; have HJ := Lib.hid hI; have HK := Lib.hid hK
                clear hL hd hcl hI hK
                go_simp
                exact HK.out _ _ g rfl (fun _ _ => by first | rfl | trivial) (HJ.out.skip (by decide))
              case s15 =>
                intro L g w' hL hd hcl hI K hK
                simp only [full, lV, Act.put, List.setIfInBounds_toArray, List.set_cons_zero, List.set_cons_succ] at hK ⊢
                obtain ⟨rsx, hlx, hrx⟩ := hI.at'
                have hbx := hlx.box
                have b3 : w'.cell? ⟨P, 3, none⟩ = some (.slice (some ⟨og, 0, none⟩) n oc) := cell_ok hbx 3
                have b4 : w'.cell? ⟨P, 4, none⟩ = some (.slice (some ⟨fg, 0, none⟩) n fc) := cell_ok hbx 4
                have hPl := lt_heap hbx
                have HLX := Lib.hid hlx; have HRX := Lib.hid hrx
                clear hbx hlx hrx
                have hll : (stL ⟨l2.outer, far2⟩ dn (top : Int) (L 13) (L 15)).far.length = n := by unfold stL; dsimp only; split <;> simp [HOK3.out.fl]
                obtain ⟨y, hy⟩ : ∃ y, (stL ⟨l2.outer, far2⟩ dn (top : Int) (L 13) (L 15)).far[dn]? = some y := ⟨_, List.getElem?_eq_getElem (by rw [hll]; exact hdn)⟩
                obtain ⟨z1, z2, z3, z4⟩ := own_at (HLX.out.bag.row _ _ _ HLX.out.far) hy
                have HLL := Lib.hid hll
                clear hll hy
                have HL := Lib.hid hL; have HD := Lib.hid hd; have HC := Lib.hid hcl; have HJ := Lib.hid hI; have HK := Lib.hid hK
                clear hL hd hcl hI hK
                go_simp
                refine HK.out _ _ g rfl (fun _ _ => by first | rfl | trivial) ⟨below_put HJ.out.low z3 _ _, HJ.out.kept.put (.inr rfl) dn _, ?_⟩
                have h1 := HLX.out.putfar HLL.out hdn (top : Int)
                have hi9 : i + 1 < rsx.length := by rw [HRX.out.1]; exact HIRS.out
                rw [List.set_append_left _ _ (by omega)] at h1
                have ea : setL L 15 15 = true := setL_eq
                have eb : setL L 15 13 = L 13 := setL_ne (by decide)
                rw [ea, eb]
                rw [HL.out] at h1
                exact ⟨_, h1, HRX.out.set (.inr rfl) _⟩
end Go.Proofs.Ytipongpgmbhpkaa
