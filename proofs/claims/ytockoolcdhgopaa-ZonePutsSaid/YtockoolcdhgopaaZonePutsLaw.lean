/- ZonePuts: the walk of the law. -/
import Derived.Test.YtockoolcdhgopaaZLw
import Derived.Test.YtockoolcdhgopaaZPt
import Derived.Deep.CutBlock
namespace Go.Proofs.Ytockoolcdhgopaa
open Go.ChangeShapes Go.WideShapes Go.ChangeAt Go.RowKit
open Zon
set_option linter.unusedVariables false
set_option maxRecDepth 100000
/-- the bounds of a list that are in range and that hold -/
def pbF (L : List Int) (f : Nat → Int → Bool) : Nat → Bool × Int := fun q => match L[q]? with | some y => if rngB y && f q y then (true, y) else (false, 0) | none => (false, 0)
def pbK (b : Nat → Bool × Int) (k : Nat) : Nat → Bool × Int := fun q => if q < k then b q else (false, 0)
theorem pbK_step {b : Nat → Bool × Int} {k : Nat} {v : Bool × Int} (h : b k = v) : updB (pbK b k) k v = pbK b (k + 1) := funext fun q => by
  unfold updB pbK
  by_cases e : q = k
  · rw [if_pos e, if_pos (by omega), e, h]
  · rw [if_neg e]
    by_cases e2 : q < k
    · rw [if_pos e2, if_pos (by omega)]
    · rw [if_neg e2, if_neg (by omega)]
theorem pbK_skip {b : Nat → Bool × Int} {k : Nat} (h : b k = (false, 0)) : pbK b k = pbK b (k + 1) := funext fun q => by
  unfold pbK
  by_cases e2 : q < k
  · rw [if_pos e2, if_pos (by omega)]
  · rw [if_neg e2]
    by_cases e : q = k
    · rw [if_pos (by omega), e, h]
    · rw [if_neg (by omega)]
theorem pbF_at {L : List Int} {f : Nat → Int → Bool} {q : Nat} {y : Int} (h : L[q]? = some y) : pbF L f q = if rngB y && f q y then (true, y) else (false, 0) := by unfold pbF; rw [h]
theorem pbF_out {L : List Int} {f : Nat → Int → Bool} {q : Nat} (h : L.length ≤ q) : pbF L f q = (false, 0) := by unfold pbF; rw [List.getElem?_eq_none h]
theorem pbF_rng {L : List Int} {f : Nat → Int → Bool} {q : Nat} (h : (pbF L f q).1 = true) : rngB (pbF L f q).2 = true ∧ f q (pbF L f q).2 = true := by
  unfold pbF at *
  cases e : L[q]? with
  | none => rw [e] at h; cases h
  | some y =>
    rw [e] at h
    simp only at h ⊢
    by_cases g : (rngB y && f q y) = true
    · rw [if_pos g]; simpa using g
    · rw [if_neg g] at h; cases h
def fUp (a : Nat → Int) (V : Int) : Nat → Int → Bool := fun q y => !decide (y < V - a q)
def fDn (a : Nat → Int) (V : Int) : Nat → Int → Bool := fun q y => !decide (y < a q - V)
theorem fUp_le {a : Nat → Int} {V y : Int} {q : Nat} (h : fUp a V q y = true) : V - a q ≤ y := by unfold fUp at h; simp at h; omega
theorem fDn_le {a : Nat → Int} {V y : Int} {q : Nat} (h : fDn a V q y = true) : a q - V ≤ y := by unfold fDn at h; simp at h; omega
theorem oth_set (x : Nat) (b : Nat → Bool × Int) (v : Bool × Int) : othR x (updB b x v) = othR x b := funext fun q => by
  unfold othR updB
  by_cases e : q = x
  · rw [if_pos e, if_pos e]
  · rw [if_neg e, if_neg e, if_neg e]
theorem oth_ok {x : Nat} {b d : Nat → Bool × Int} (hb : ∀ q, (b q).1 = true → rngB (b q).2 = true) (hd : ∀ q, (d q).1 = true → rngB (d q).2 = true) : PutOk x (othR x b) (othR x d) :=
  ⟨fun q _ => by unfold othR; split; exact ok_no; split; exact ok_of_rng (hb q ‹_›); exact ok_no, fun q _ => by unfold othR; split; exact ok_no; split; exact ok_of_rng (hd q ‹_›); exact ok_no, if_pos rfl, if_pos rfl⟩
theorem oth_is {x q : Nat} {b : Nat → Bool × Int} (h : othR x b q ≠ 3458764513820540928) : (b q).1 = true ∧ othR x b q = (b q).2 := by
  unfold othR at *
  by_cases e : q = x
  · rw [if_pos e] at h; exact absurd rfl h
  · rw [if_neg e] at h ⊢
    by_cases g : (b q).1 = true
    · rw [if_pos g]; exact ⟨g, rfl⟩
    · rw [if_neg g] at h; exact absurd rfl h
theorem oth_at {x q : Nat} {b : Nat → Bool × Int} (e : q ≠ x) (h : (b q).1 = true) : othR x b q = (b q).2 := by unfold othR; rw [if_neg e, if_pos h]
theorem bv_form (v : Option Int) : ∃ bi bc, bv v = .agg #[.bool bi, .int .i64 bc] := by cases v <;> exact ⟨_, _, rfl⟩
set_option maxHeartbeats 6000000 in
theorem zonePuts_walk (w : World) (A0 : Option Addr) (n0 c0 : Nat) (L0 : List Int) (i0 : NumIn w A0 n0 c0 L0) (A1 : Option Addr) (n1 c1 : Nat) (L1 : List Con) (i1 : ConIn w A1 n1 c1 L1) (X : Int) (bX : I64 X) (V : Int) (bV : I64 V) (A4 : Option Addr) (n4 c4 : Nat) (L4 : List Int) (i4 : NumIn w A4 n4 c4 L4) (A5 : Option Addr) (n5 c5 : Nat) (L5 : List Int) (i5 : NumIn w A5 n5 c5 L5) :
    Calls Try.prog 3 #[.slice A0 n0 c0, .slice A1 n1 c1, .int .i64 X, .int .i64 V, .slice A4 n4 c4, .slice A5 n5 c5] w (True_ w) := by
  have I0 := Lib.hid i0
  have I1 := Lib.hid i1
  have I4 := Lib.hid i4
  have I5 := Lib.hid i5
  have BX := Lib.hid bX
  have BV := Lib.hid bV
  have HI := Lib.hid (show ∀ q, q < 60 → I64 (fullV L0 q) from fun q _ => fullV_i64 i0.rng q)
  have HML := Lib.hid (show (metL L1 (fullV L0)).length ≤ 7000000000000 by have : (metL L1 (fullV L0)).length ≤ L1.length := List.length_filter_le _ _; have := i1.len; have := i1.reach; omega)
  clear i0 i1 i4 i5 bX bV
  go_enter Try.func3, Try.ntmps3
  have S0 := Lib.hid (St.start w)
  go_wp2_with fail
  go_at_call 8
  refine (full_any _ A0 n0 c0 L0 (lw_numb I0.out S0.out.1)).mono ?_
  rintro e W1 ⟨ga, rfl, hg, hv, hB⟩
  have HVa := Lib.hid hv
  have S1 := Lib.hid (show St w W1 [] from (S0.out.up hB))
  clear hB S0 hg hv
  generalize fullV L0 = a at *
  have HMM := Lib.hid (withZ_meets okT_top (meets_top a) (metL L1 a) (metL_met L1 a))
  obtain ⟨M, e1, hM, hm, -⟩ := HMM.out
  have HDI := Lib.hid (withZ_diag diag_top _ e1)
  have HV := Lib.hid e1
  have HMO := Lib.hid hM
  have HME := Lib.hid hm
  have HWM := Lib.hid (show wrongL (metL L1 a) = 0 from wrongL_all fun x hx => (metL_met L1 a x hx).1)
  clear HMM e1 hM hm
  go_wp2_with fail
  go_at_call 9
  refine (New_law _).mono ?_
  rintro e W2 ⟨g0, rfl, hg, hz, hB⟩
  have S2 := Lib.hid (show St w W2 [(g0, some topT)] from (S1.out.up hB).add hz)
  have THVa := Lib.hid (HVa.out.up hB)
  clear HVa
  have HVa := THVa
  clear THVa
  clear hB S1 hz hg
  go_wp2_with fail
  go_at_call 12
  refine (met_any _ A1 n1 c1 L1 (lw_conb I1.out S2.out.1) ga a HVa.out HI.out).mono ?_
  rintro e W3 ⟨Am, nm, cm, rfl, hLm, hcm, hAm, hB⟩
  have HAm := Lib.hid hAm
  have HLm := Lib.hid hLm
  have S3 := Lib.hid (show St w W3 [(g0, some topT)] from (S2.out.up hB))
  have THVa := Lib.hid (HVa.out.up hB)
  clear HVa
  have HVa := THVa
  clear THVa
  clear hB S2 hLm hcm hAm
  go_wp2_with fail
  go_at_call 11
  refine (cons_law _ Am nm cm (metL L1 a) HLm.out (by have := HML.out; have := HLm.out; omega) HAm.out).mono ?_
  rintro e W4 ⟨Al, nl, cl, rfl, hLl, hcl, hAl, hB⟩
  have HAl := Lib.hid hAl
  have HLl := Lib.hid hLl
  have S4 := Lib.hid (show St w W4 [(g0, some topT)] from (S3.out.up hB))
  have THVa := Lib.hid (HVa.out.up hB)
  clear HVa
  have HVa := THVa
  clear THVa
  clear hB S3 hLl hcl hAl
  go_wp2_with fail
  go_at_call 10
  refine (With_law _ g0 (some topT) Al nl cl (metL L1 a) (S4.out.2 (g0, some topT) (by simp)) HLl.out (by have := HML.out; have := HLl.out; omega) HAl.out HWM.out).mono ?_
  rintro e W5 ⟨gz, rfl, hz, hB⟩
  rw [HV.out] at hz
  have S5 := Lib.hid (show St w W5 [(gz, some M), (g0, some topT)] from (S4.out.up hB).add hz)
  have THVa := Lib.hid (HVa.out.up hB)
  clear HVa
  have HVa := THVa
  clear THVa
  clear hB S4 hz HAl HLl HAm HLm
  go_wp2_with fail
  go_at_call 13
  refine (meets_yes _ gz M (S5.out.2 (gz, some M) (by simp)) ga a HVa.out HI.out HME.out).mono ?_
  rintro e W6 ⟨rfl, hB⟩
  have S6 := Lib.hid (show St w W6 [(gz, some M), (g0, some topT)] from (S5.out.up hB))
  have THVa := Lib.hid (HVa.out.up hB)
  clear HVa
  have HVa := THVa
  clear THVa
  clear hB S5
  go_upto_region 5 with (fail)
  by_cases hx1 : X < 1
  · have t1 : decide (X < 1) = true := decide_eq_true hx1
    clear hx1
    go_wp2_with fail
    go_at_call 14
    refine (awake_any _).mono ?_
    rintro e WZ ⟨rfl, hB⟩
    have SZ := Lib.hid (S6.out.1.trans (hB.mono S6.out.1.size))
    clear hB
    go_wp2_with fail
    go_ret
    exact ⟨rfl, SZ.out⟩
  by_cases hx2 : 60 ≤ X
  · have t1 : decide (X < 1) = false := decide_eq_false hx1
    have t2 : decide (60 ≤ X) = true := decide_eq_true hx2
    clear hx1 hx2
    go_wp2_with fail
    go_at_call 14
    refine (awake_any _).mono ?_
    rintro e WZ ⟨rfl, hB⟩
    have SZ := Lib.hid (S6.out.1.trans (hB.mono S6.out.1.size))
    clear hB
    go_wp2_with fail
    go_ret
    exact ⟨rfl, SZ.out⟩
  have t1 : decide (X < 1) = false := decide_eq_false hx1
  have t2 : decide (60 ≤ X) = false := decide_eq_false hx2
  obtain ⟨x, rfl⟩ : ∃ x : Nat, X = x := ⟨X.toNat, by omega⟩
  have HX6 := Lib.hid (show x < 60 by omega)
  have HX1 := Lib.hid (show 1 ≤ x by omega)
  clear hx1 hx2
  have hx0 : (0 : Int) ≤ x := by omega
  have hx6 : (x : Int) < 60 := by have := HX6.out; omega
  go_upto_region 8 with (refine wpList_make60v rfl _ _ rfl rfl rfl ?_; intro W7 hb2 hB hs2)
  clear t1 t2
  obtain ⟨gu, hgu⟩ : ∃ gu, gu = W6.heap.size := ⟨_, rfl⟩
  rw [← hgu] at hb2 ⊢
  have Hgu := Lib.hid (hb2.congr (b := pbK (pbF L4 (fUp a V)) 0) fun q _ => by unfold pbK; rw [if_neg (by omega)])
  have HLgu := Lib.hid (show w.heap.size ≤ gu by have := S6.out.1.size; omega)
  have HAgu := Lib.hid (show ga < gu by have := HVa.out.lt; omega)
  have HGgu := Lib.hid (show gz < gu by have := (S6.out.2 (gz, some M) (by simp)).lt; omega)
  have S7 := Lib.hid (show St w W7 [(gz, some M), (g0, some topT)] from (S6.out.up hB))
  have THVa := Lib.hid (HVa.out.up hB)
  clear HVa
  have HVa := THVa
  clear THVa
  clear hB S6 hgu hb2 hs2
  go_upto_region 9 with (refine wpList_make60v rfl _ _ rfl rfl rfl ?_; intro W8 hb2 hB hs2)
  obtain ⟨gd, hgu⟩ : ∃ gu, gu = W7.heap.size := ⟨_, rfl⟩
  rw [← hgu] at hb2 ⊢
  have Hgd := Lib.hid (hb2.congr (b := pbK (pbF L5 (fDn a V)) 0) fun q _ => by unfold pbK; rw [if_neg (by omega)])
  have HLgd := Lib.hid (show w.heap.size ≤ gd by have := S7.out.1.size; omega)
  have HAgd := Lib.hid (show ga < gd by have := HVa.out.lt; omega)
  have HGgd := Lib.hid (show gz < gd by have := (S7.out.2 (gz, some M) (by simp)).lt; omega)
  have HNE := Lib.hid (show gu ≠ gd by have := Hgu.out.lt; omega)
  have S8 := Lib.hid (show St w W8 [(gz, some M), (g0, some topT)] from (S7.out.up hB))
  have THVa := Lib.hid (HVa.out.up hB)
  clear HVa
  have HVa := THVa
  clear THVa
  have THgu := Lib.hid (Hgu.out.up hB)
  clear Hgu
  have Hgu := THgu
  clear THgu
  clear hB S7 hgu hb2 hs2
  go_upto_block 0 with (fail)
  go_cut [] (fun wx => ∃ W59, W59 = wx ∧ BvAt W59 gu (pbF L4 (fUp a V)) ∧ Touch gu W8 W59)
  case first =>
    go_wp2_with fail
    go_loopw [18] (fun i wr => ∃ k : Nat, k ≤ 60 ∧ i = .int .i64 k ∧ BvAt wr gu (pbK (pbF L4 (fUp a V)) k) ∧ Touch gu W8 wr) (fun i _ => (60 - intOf i).toNat)
    case atStart => exact ⟨0, by omega, rfl, Hgu.out, Touch.refl _ _⟩
    case round =>
      obtain ⟨k, hk, rfl, hV, hT⟩ := hrel
      have hk0 : (0 : Int) ≤ k := by omega
      have HLN := Lib.hid I4.out.len
      by_cases hlt : k < 60 ∧ k < n4
      · have hk6 : (k : Int) < 60 := by omega
        have hkn : (k : Int) < n4 := by omega
        have hn0 : n4 ≤ 17592186044416 := I4.out.reach
        obtain ⟨b, off, rfl, hbl, hc⟩ := I4.out.at_ (by have := HLN.out; omega)
        obtain ⟨y, hy⟩ : ∃ y, L4[k]? = some y := ⟨L4[k]'(by have := HLN.out; omega), List.getElem?_eq_getElem _⟩
        have hBW := S8.out.1
        have x0 : wr.cell? ⟨b, off + k, none⟩ = some (.int .i64 y) := by
          rw [World.cell?_of_block (w := W8) (hT.block b (by have := hBW.size; omega) (by have := HLgu.out; omega))]
          exact (hBW.cell (p := ⟨b, off + k, none⟩) hbl).trans (hc k y hy)
        have v0 : wr.cell? ⟨ga, k, none⟩ = some (.int .i64 (a k)) := (HVa.out.touch hT (by have := HAgu.out; omega)).at_ k hlt.1
        have HFY := Lib.hid (pbF_at (f := fUp a V) hy)
        have HKT := Lib.hid hlt.1
        have HVk := Lib.hid hV
        have HTk := Lib.hid hT
        have hai := HI.out k hlt.1
        clear hV hT hbl hc hy hlt hBW
        have HBY := Lib.hid (fun W (h : rngB y = true) => beyond_any V (a k) y W BV.out hai (by have := ok_of_rng h; unfold rngB at h; simp at h; omega))
        have HDB := Lib.hid (show fUp a V k y = !decide (y < V - a k) from rfl)
        clear hai
        cases h1 : decide (-1152921504606846976 ≤ y)
        · have HFN := Lib.hid (show pbF L4 (fUp a V) k = (false, 0) by rw [HFY.out]; unfold rngB; rw [h1]; rfl)
          go_upto_region 12 with (fail)
          go_quiet (fail)
          obtain ⟨Wq, hWq⟩ : ∃ WW, WW = wr.drewN nq := ⟨_, rfl⟩
          rw [← hWq]
          have HVn := Lib.hid (show BvAt Wq gu (pbK (pbF L4 (fUp a V)) k) by rw [hWq]; exact HVk.out)
          have HTn := Lib.hid (show Touch gu W8 Wq by rw [hWq]; exact HTk.out.trans (Touch.drewN wr nq))
          replace x0 : Wq.cell? ⟨b, off + k, none⟩ = some (.int .i64 y) := by rw [hWq]; exact x0
          clear hWq HVk HTk v0
          go_wp2_with fail
          go_roundw
          case rel => exact ⟨k + 1, by have := HKT.out; omega, by go_num, by rw [← pbK_skip HFN.out]; exact HVn.out, HTn.out⟩
          case measure => simp [intOf]; omega
        · cases h2 : decide (y ≤ 1152921504606846976)
          · have HFN := Lib.hid (show pbF L4 (fUp a V) k = (false, 0) by rw [HFY.out]; unfold rngB; rw [h1, h2]; rfl)
            go_upto_region 12 with (fail)
            go_quiet (fail)
            obtain ⟨Wq, hWq⟩ : ∃ WW, WW = wr.drewN nq := ⟨_, rfl⟩
            rw [← hWq]
            have HVn := Lib.hid (show BvAt Wq gu (pbK (pbF L4 (fUp a V)) k) by rw [hWq]; exact HVk.out)
            have HTn := Lib.hid (show Touch gu W8 Wq by rw [hWq]; exact HTk.out.trans (Touch.drewN wr nq))
            replace x0 : Wq.cell? ⟨b, off + k, none⟩ = some (.int .i64 y) := by rw [hWq]; exact x0
            clear hWq HVk HTk v0
            go_wp2_with fail
            go_roundw
            case rel => exact ⟨k + 1, by have := HKT.out; omega, by go_num, by rw [← pbK_skip HFN.out]; exact HVn.out, HTn.out⟩
            case measure => simp [intOf]; omega
          · have hrr : rngB y = true := by unfold rngB; rw [h1, h2]; rfl
            cases h3 : decide (y < V - a k)
            · have HFN := Lib.hid (show pbF L4 (fUp a V) k = (true, y) by rw [HFY.out, hrr, HDB.out, h3]; rfl)
              rw [h3] at HBY
              go_upto_region 12 with (fail)
              go_quiet ((go_at_call 15; exact Calls.quiet_of_same ((HBY.out _ hrr).mono fun e w' h => ⟨h.1, h.2.symm⟩)))
              obtain ⟨Wq, hWq⟩ : ∃ WW, WW = wr.drewN nq := ⟨_, rfl⟩
              rw [← hWq]
              have HVn := Lib.hid (show BvAt Wq gu (pbK (pbF L4 (fUp a V)) k) by rw [hWq]; exact HVk.out)
              have HTn := Lib.hid (show Touch gu W8 Wq by rw [hWq]; exact HTk.out.trans (Touch.drewN wr nq))
              replace x0 : Wq.cell? ⟨b, off + k, none⟩ = some (.int .i64 y) := by rw [hWq]; exact x0
              clear hWq HVk HTk v0
              go_wp2_with (refine wpList_store_seg rfl 38 _ _ rfl gu (k * 2) 38 120 2 (bvF (pbK (pbF L4 (fUp a V)) k)) (fun q => if q = 0 then .bool true else .int .i64 y) rfl (congrArg Value.agg (two_arr _ _)) HVn.out (by have := HKT.out; omega) sizeBd (fun q _ => by show (if q = 0 then Value.bool true else Value.int .i64 y).oneCell' = true; split <;> rfl) ?_; intro W8 hb8 hT8 hs8)
              go_roundw
              case rel => exact ⟨k + 1, by have := HKT.out; omega, by go_num, by rw [← pbK_step HFN.out]; exact hb8.congr fun q _ => bv_put q, HTn.out.trans hT8⟩
              case measure => simp [intOf]; omega
            · have HFN := Lib.hid (show pbF L4 (fUp a V) k = (false, 0) by rw [HFY.out]; rw [hrr, HDB.out, h3]; rfl)
              rw [h3] at HBY
              go_upto_region 12 with (fail)
              go_quiet ((go_at_call 15; exact Calls.quiet_of_same ((HBY.out _ hrr).mono fun e w' h => ⟨h.1, h.2.symm⟩)))
              obtain ⟨Wq, hWq⟩ : ∃ WW, WW = wr.drewN nq := ⟨_, rfl⟩
              rw [← hWq]
              have HVn := Lib.hid (show BvAt Wq gu (pbK (pbF L4 (fUp a V)) k) by rw [hWq]; exact HVk.out)
              have HTn := Lib.hid (show Touch gu W8 Wq by rw [hWq]; exact HTk.out.trans (Touch.drewN wr nq))
              replace x0 : Wq.cell? ⟨b, off + k, none⟩ = some (.int .i64 y) := by rw [hWq]; exact x0
              clear hWq HVk HTk v0
              go_wp2_with fail
              go_roundw
              case rel => exact ⟨k + 1, by have := HKT.out; omega, by go_num, by rw [← pbK_skip HFN.out]; exact HVn.out, HTn.out⟩
              case measure => simp [intOf]; omega
      · have HVx := Lib.hid (show BvAt wr gu (pbF L4 (fUp a V)) from hV.congr fun q hq => by
          unfold pbK
          by_cases e : q < k
          · rw [if_pos e]
          · rw [if_neg e]; exact (pbF_out (by have := HLN.out; omega)).symm)
        have HTx := Lib.hid hT
        clear hV hT
        by_cases h1 : k < 60
        · have t1 : (k : Int) < 60 := by omega
          have t2 : decide ((k : Int) < n4) = false := decide_eq_false (by omega)
          have t3 : decide (k < n4) = false := decide_eq_false (by omega)
          go_wp2_with fail
          go_meet
          case rel => exact ⟨_, rfl, HVx.out, HTx.out⟩
        · have t1 : decide ((k : Int) < 60) = false := decide_eq_false (by omega)
          go_wp2_with fail
          go_meet
          case rel => exact ⟨_, rfl, HVx.out, HTx.out⟩
  case rest =>
    obtain ⟨W59, rfl, hV, hT⟩ := hcut
    have hSB := S8.out.1.trans (hT.below HLgu.out S8.out.1.size)
    have hSZ : ZoneAt W59 gz (some M) := ⟨ZB.touch (S8.out.2 (gz, some M) (by simp)).1 hT (by have := HGgu.out; omega), (S8.out.2 (gz, some M) (by simp)).2⟩
    have HVa2 := Lib.hid (HVa.out.touch hT (by have := HAgu.out; omega))
    have Hgd2 := Lib.hid (FB.touch Hgd.out hT (fun e => HNE.out e.symm))
    have Hgu2 := Lib.hid hV
    have S9 := Lib.hid (show St w W59 [(gz, some M)] from ⟨hSB, fun y hy => by rw [List.mem_singleton] at hy; subst hy; exact hSZ⟩)
    clear hV hT hSB hSZ S8 HVa Hgu Hgd
    have HVa := HVa2
    have Hgu := Hgu2
    have Hgd := Hgd2
    clear HVa2 Hgu2 Hgd2
    go_upto_block 2 with (fail)
    go_cut [] (fun wx => ∃ W60, W60 = wx ∧ BvAt W60 gd (pbF L5 (fDn a V)) ∧ Touch gd W59 W60)
    case first =>
      go_wp2_with fail
      go_loopw [19] (fun i wr => ∃ k : Nat, k ≤ 60 ∧ i = .int .i64 k ∧ BvAt wr gd (pbK (pbF L5 (fDn a V)) k) ∧ Touch gd W59 wr) (fun i _ => (60 - intOf i).toNat)
      case atStart => exact ⟨0, by omega, rfl, Hgd.out, Touch.refl _ _⟩
      case round =>
        obtain ⟨k, hk, rfl, hV, hT⟩ := hrel
        have hk0 : (0 : Int) ≤ k := by omega
        have HLN := Lib.hid I5.out.len
        by_cases hlt : k < 60 ∧ k < n5
        · have hk6 : (k : Int) < 60 := by omega
          have hkn : (k : Int) < n5 := by omega
          have hn0 : n5 ≤ 17592186044416 := I5.out.reach
          obtain ⟨b, off, rfl, hbl, hc⟩ := I5.out.at_ (by have := HLN.out; omega)
          obtain ⟨y, hy⟩ : ∃ y, L5[k]? = some y := ⟨L5[k]'(by have := HLN.out; omega), List.getElem?_eq_getElem _⟩
          have hBW := S9.out.1
          have x0 : wr.cell? ⟨b, off + k, none⟩ = some (.int .i64 y) := by
            rw [World.cell?_of_block (w := W59) (hT.block b (by have := hBW.size; omega) (by have := HLgd.out; omega))]
            exact (hBW.cell (p := ⟨b, off + k, none⟩) hbl).trans (hc k y hy)
          have v0 : wr.cell? ⟨ga, k, none⟩ = some (.int .i64 (a k)) := (HVa.out.touch hT (by have := HAgd.out; omega)).at_ k hlt.1
          have HFY := Lib.hid (pbF_at (f := fDn a V) hy)
          have HKT := Lib.hid hlt.1
          have HVk := Lib.hid hV
          have HTk := Lib.hid hT
          have hai := HI.out k hlt.1
          clear hV hT hbl hc hy hlt hBW
          have HBY := Lib.hid (fun W (h : rngB y = true) => beyond_any (a k) V y W hai BV.out (by have := ok_of_rng h; unfold rngB at h; simp at h; omega))
          have HDB := Lib.hid (show fDn a V k y = !decide (y < a k - V) from rfl)
          clear hai
          cases h1 : decide (-1152921504606846976 ≤ y)
          · have HFN := Lib.hid (show pbF L5 (fDn a V) k = (false, 0) by rw [HFY.out]; unfold rngB; rw [h1]; rfl)
            go_upto_region 17 with (fail)
            go_quiet (fail)
            obtain ⟨Wq, hWq⟩ : ∃ WW, WW = wr.drewN nq := ⟨_, rfl⟩
            rw [← hWq]
            have HVn := Lib.hid (show BvAt Wq gd (pbK (pbF L5 (fDn a V)) k) by rw [hWq]; exact HVk.out)
            have HTn := Lib.hid (show Touch gd W59 Wq by rw [hWq]; exact HTk.out.trans (Touch.drewN wr nq))
            replace x0 : Wq.cell? ⟨b, off + k, none⟩ = some (.int .i64 y) := by rw [hWq]; exact x0
            clear hWq HVk HTk v0
            go_wp2_with fail
            go_roundw
            case rel => exact ⟨k + 1, by have := HKT.out; omega, by go_num, by rw [← pbK_skip HFN.out]; exact HVn.out, HTn.out⟩
            case measure => simp [intOf]; omega
          · cases h2 : decide (y ≤ 1152921504606846976)
            · have HFN := Lib.hid (show pbF L5 (fDn a V) k = (false, 0) by rw [HFY.out]; unfold rngB; rw [h1, h2]; rfl)
              go_upto_region 17 with (fail)
              go_quiet (fail)
              obtain ⟨Wq, hWq⟩ : ∃ WW, WW = wr.drewN nq := ⟨_, rfl⟩
              rw [← hWq]
              have HVn := Lib.hid (show BvAt Wq gd (pbK (pbF L5 (fDn a V)) k) by rw [hWq]; exact HVk.out)
              have HTn := Lib.hid (show Touch gd W59 Wq by rw [hWq]; exact HTk.out.trans (Touch.drewN wr nq))
              replace x0 : Wq.cell? ⟨b, off + k, none⟩ = some (.int .i64 y) := by rw [hWq]; exact x0
              clear hWq HVk HTk v0
              go_wp2_with fail
              go_roundw
              case rel => exact ⟨k + 1, by have := HKT.out; omega, by go_num, by rw [← pbK_skip HFN.out]; exact HVn.out, HTn.out⟩
              case measure => simp [intOf]; omega
            · have hrr : rngB y = true := by unfold rngB; rw [h1, h2]; rfl
              cases h3 : decide (y < a k - V)
              · have HFN := Lib.hid (show pbF L5 (fDn a V) k = (true, y) by rw [HFY.out, hrr, HDB.out, h3]; rfl)
                rw [h3] at HBY
                go_upto_region 17 with (fail)
                go_quiet ((go_at_call 15; exact Calls.quiet_of_same ((HBY.out _ hrr).mono fun e w' h => ⟨h.1, h.2.symm⟩)))
                obtain ⟨Wq, hWq⟩ : ∃ WW, WW = wr.drewN nq := ⟨_, rfl⟩
                rw [← hWq]
                have HVn := Lib.hid (show BvAt Wq gd (pbK (pbF L5 (fDn a V)) k) by rw [hWq]; exact HVk.out)
                have HTn := Lib.hid (show Touch gd W59 Wq by rw [hWq]; exact HTk.out.trans (Touch.drewN wr nq))
                replace x0 : Wq.cell? ⟨b, off + k, none⟩ = some (.int .i64 y) := by rw [hWq]; exact x0
                clear hWq HVk HTk v0
                go_wp2_with (refine wpList_store_seg rfl 38 _ _ rfl gd (k * 2) 38 120 2 (bvF (pbK (pbF L5 (fDn a V)) k)) (fun q => if q = 0 then .bool true else .int .i64 y) rfl (congrArg Value.agg (two_arr _ _)) HVn.out (by have := HKT.out; omega) sizeBd (fun q _ => by show (if q = 0 then Value.bool true else Value.int .i64 y).oneCell' = true; split <;> rfl) ?_; intro W8 hb8 hT8 hs8)
                go_roundw
                case rel => exact ⟨k + 1, by have := HKT.out; omega, by go_num, by rw [← pbK_step HFN.out]; exact hb8.congr fun q _ => bv_put q, HTn.out.trans hT8⟩
                case measure => simp [intOf]; omega
              · have HFN := Lib.hid (show pbF L5 (fDn a V) k = (false, 0) by rw [HFY.out]; rw [hrr, HDB.out, h3]; rfl)
                rw [h3] at HBY
                go_upto_region 17 with (fail)
                go_quiet ((go_at_call 15; exact Calls.quiet_of_same ((HBY.out _ hrr).mono fun e w' h => ⟨h.1, h.2.symm⟩)))
                obtain ⟨Wq, hWq⟩ : ∃ WW, WW = wr.drewN nq := ⟨_, rfl⟩
                rw [← hWq]
                have HVn := Lib.hid (show BvAt Wq gd (pbK (pbF L5 (fDn a V)) k) by rw [hWq]; exact HVk.out)
                have HTn := Lib.hid (show Touch gd W59 Wq by rw [hWq]; exact HTk.out.trans (Touch.drewN wr nq))
                replace x0 : Wq.cell? ⟨b, off + k, none⟩ = some (.int .i64 y) := by rw [hWq]; exact x0
                clear hWq HVk HTk v0
                go_wp2_with fail
                go_roundw
                case rel => exact ⟨k + 1, by have := HKT.out; omega, by go_num, by rw [← pbK_skip HFN.out]; exact HVn.out, HTn.out⟩
                case measure => simp [intOf]; omega
        · have HVx := Lib.hid (show BvAt wr gd (pbF L5 (fDn a V)) from hV.congr fun q hq => by
            unfold pbK
            by_cases e : q < k
            · rw [if_pos e]
            · rw [if_neg e]; exact (pbF_out (by have := HLN.out; omega)).symm)
          have HTx := Lib.hid hT
          clear hV hT
          by_cases h1 : k < 60
          · have t1 : (k : Int) < 60 := by omega
            have t2 : decide ((k : Int) < n5) = false := decide_eq_false (by omega)
            have t3 : decide (k < n5) = false := decide_eq_false (by omega)
            go_wp2_with fail
            go_meet
            case rel => exact ⟨_, rfl, HVx.out, HTx.out⟩
          · have t1 : decide ((k : Int) < 60) = false := decide_eq_false (by omega)
            go_wp2_with fail
            go_meet
            case rel => exact ⟨_, rfl, HVx.out, HTx.out⟩
    case rest =>
      obtain ⟨W60, rfl, hV, hT⟩ := hcut
      have hSB := S9.out.1.trans (hT.below HLgd.out S9.out.1.size)
      have hSZ : ZoneAt W60 gz (some M) := ⟨ZB.touch (S9.out.2 (gz, some M) (by simp)).1 hT (by have := HGgd.out; omega), (S9.out.2 (gz, some M) (by simp)).2⟩
      have HVa2 := Lib.hid (HVa.out.touch hT (by have := HAgd.out; omega))
      have Hgu2 := Lib.hid (FB.touch Hgu.out hT (HNE.out))
      have Hgd2 := Lib.hid hV
      have S10 := Lib.hid (show St w W60 [(gz, some M)] from ⟨hSB, fun y hy => by rw [List.mem_singleton] at hy; subst hy; exact hSZ⟩)
      clear hV hT hSB hSZ S9 HVa Hgd Hgu
      have HVa := HVa2
      have Hgd := Hgd2
      have Hgu := Hgu2
      clear HVa2 Hgd2 Hgu2
      go_upto_region 20 with (refine wpList_store_seg rfl 38 _ _ rfl gu (x * 2) 38 120 2 (bvF (pbF L4 (fUp a V))) (fun q => if q = 0 then .bool true else .int .i64 7) rfl (congrArg Value.agg (two_arr _ _)) Hgu.out (by have := HX6.out; omega) sizeBd (fun q _ => by show (if q = 0 then Value.bool true else Value.int .i64 7).oneCell' = true; split <;> rfl) ?_; intro W8 hb8 hT8 hs8)
      have Hgu2 := Lib.hid (show BvAt W8 gu (updB (pbF L4 (fUp a V)) x (true, 7)) from hb8.congr fun q _ => bv_put q)
      have Hgd2 := Lib.hid (FB.touch Hgd.out hT8 (fun e => HNE.out e.symm))
      have HVa2 := Lib.hid (HVa.out.touch hT8 (by have := HAgu.out; omega))
      have hSB := S10.out.1.trans (hT8.below HLgu.out S10.out.1.size)
      have hSZ : ZoneAt W8 gz (some M) := ⟨ZB.touch (S10.out.2 (gz, some M) (by simp)).1 hT8 (by have := HGgu.out; omega), (S10.out.2 (gz, some M) (by simp)).2⟩
      have S11 := Lib.hid (show St w W8 [(gz, some M)] from ⟨hSB, fun y hy => by rw [List.mem_singleton] at hy; subst hy; exact hSZ⟩)
      clear hb8 hT8 hs8 hSB hSZ S10 HVa Hgu Hgd
      have HVa := HVa2
      have Hgu := Hgu2
      have Hgd := Hgd2
      clear HVa2 Hgu2 Hgd2
      have HRU := Lib.hid (show ∀ q, (pbF L4 (fUp a V) q).1 = true → rngB (pbF L4 (fUp a V) q).2 = true from fun q h => (pbF_rng h).1)
      have HRD := Lib.hid (show ∀ q, (pbF L5 (fDn a V) q).1 = true → rngB (pbF L5 (fDn a V) q).2 = true from fun q h => (pbF_rng h).1)
      have HPO := Lib.hid (oth_ok (x := x) HRU.out HRD.out)
      have HPM := Lib.hid (putZ_meets (v := V) HMO.out HME.out HPO.out (fun q hq hqx hne => by obtain ⟨g1, g2⟩ := oth_is hne; rw [g2]; exact fUp_le (pbF_rng g1).2) (fun q hq hqx hne => by obtain ⟨g1, g2⟩ := oth_is hne; rw [g2]; exact fDn_le (pbF_rng g1).2))
      obtain ⟨hp1, hp2, hp3⟩ := HPM.out
      have HPU := Lib.hid (show ∀ q, q < 60 → q ≠ x → (pbF L4 (fUp a V) q).1 = true → putT M x (othR x (pbF L4 (fUp a V))) (othR x (pbF L5 (fDn a V))) x q ≤ (pbF L4 (fUp a V) q).2 from fun q hq hqx h => by have := put_up HPO.out hq hqx (HDI.out q hq); rwa [oth_at hqx h] at this)
      have HPD := Lib.hid (show ∀ q, q < 60 → q ≠ x → (pbF L5 (fDn a V) q).1 = true → putT M x (othR x (pbF L4 (fUp a V))) (othR x (pbF L5 (fDn a V))) q x ≤ (pbF L5 (fDn a V) q).2 from fun q hq hqx h => by have := put_down HPO.out hq hqx (HDI.out q hq); rwa [oth_at hqx h] at this)
      generalize hUU : pbF L4 (fUp a V) = U at *
      generalize hDD : pbF L5 (fDn a V) = D at *
      have HP1 := Lib.hid hp1
      have HP2 := Lib.hid hp2
      have HP3 := Lib.hid hp3
      clear hp1 hp2 hp3 HPM hUU hDD
      go_wp2_with fail
      go_at_call 16
      refine (Put_law _ gz x gu gd (some M) (updB U x (true, 7)) D (S11.out.2 (gz, some M) (by simp)) HX6.out HX1.out Hgu.out Hgd.out (fun q hq hqx h => by unfold updB at h ⊢; rw [if_neg hqx] at h ⊢; exact HRU.out q h) (fun q hq hqx h => HRD.out q h) (by rw [oth_set]; exact HPO.out)).mono ?_
      rintro e W12 ⟨gn, rfl, hz, hB⟩
      rw [oth_set, HP1.out] at hz
      generalize hPT : putT M x (othR x U) (othR x D) = N at *
      clear hPT
      have S12 := Lib.hid (show St w W12 [(gn, some N), (gz, some M)] from (S11.out.up hB).add hz)
      have THVa := Lib.hid (HVa.out.up hB)
      clear HVa
      have HVa := THVa
      clear THVa
      have THgu := Lib.hid (Hgu.out.up hB)
      clear Hgu
      have Hgu := THgu
      clear THgu
      have THgd := Lib.hid (Hgd.out.up hB)
      clear Hgd
      have Hgd := THgd
      clear THgd
      clear hB S11 hz
      go_wp2_with fail
      go_at_call 17
      refine (with_any _ ga a x V HVa.out HX6.out).mono ?_
      rintro e W13 ⟨gv, rfl, hg, hv, hB⟩
      have HVv := Lib.hid hv
      have S13 := Lib.hid (show St w W13 [(gn, some N), (gz, some M)] from (S12.out.up hB))
      have THVa := Lib.hid (HVa.out.up hB)
      clear HVa
      have HVa := THVa
      clear THVa
      have THgu := Lib.hid (Hgu.out.up hB)
      clear Hgu
      have Hgu := THgu
      clear THgu
      have THgd := Lib.hid (Hgd.out.up hB)
      clear Hgd
      have Hgd := THgd
      clear THgd
      clear hB S12 hg hv
      go_wp2_with fail
      go_at_call 13
      refine (meets_yes _ gn N (S13.out.2 (gn, some N) (by simp)) gv (updI a x V) HVv.out (lw_upd HI.out BV.out) HP3.out).mono ?_
      rintro e W14 ⟨rfl, hB⟩
      have S14 := Lib.hid (show St w W14 [(gn, some N), (gz, some M)] from (S13.out.up hB))
      have THVa := Lib.hid (HVa.out.up hB)
      clear HVa
      have HVa := THVa
      clear THVa
      have THgu := Lib.hid (Hgu.out.up hB)
      clear Hgu
      have Hgu := THgu
      clear THgu
      have THgd := Lib.hid (Hgd.out.up hB)
      clear Hgd
      have Hgd := THgd
      clear THgd
      have THVv := Lib.hid (HVv.out.up hB)
      clear HVv
      have HVv := THVv
      clear THVv
      clear hB S13
      go_wp2_with fail
      go_loopw [21] (fun i wr => ∃ k : Nat, k ≤ 60 ∧ i = .int .i64 k ∧ Below W14.heap.size W14 wr) (fun i _ => (60 - intOf i).toNat)
      case atStart => exact ⟨0, by omega, rfl, Below.refl _ _⟩
      case round =>
        obtain ⟨k, hk, rfl, hB⟩ := hrel
        have hk0 : (0 : Int) ≤ k := by omega
        by_cases hlt : k < 60
        · have hk6 : (k : Int) < 60 := by omega
          have HKT := Lib.hid hlt
          have HB := Lib.hid hB
          clear hB hlt
          by_cases hkx : k = x
          · have t1 : ((k : Int) == (x : Int)) = true := by rw [hkx]; exact beq_self_eq_true _
            clear hkx
            go_wp2_with fail
            go_roundw
            case rel => exact ⟨k + 1, by have := HKT.out; omega, by go_num, HB.out⟩
            case measure => simp [intOf]; omega
          · have t1 : ((k : Int) == (x : Int)) = false := by rw [beq_eq_false_iff_ne]; omega
            have hpu := HPU.out k HKT.out hkx
            have hpd := HPD.out k HKT.out hkx
            have hru := HRU.out k
            have hrd := HRD.out k
            have hou := HP2.out x k HX6.out HKT.out
            have hod := HP2.out k x HKT.out HX6.out
            have HBU := Lib.hid (fun W (hW : Below W14.heap.size W14 W) => Bound_at W gn x k N ((S14.out.2 (gn, some N) (by simp)).up hW) HX6.out HKT.out)
            have HBD := Lib.hid (fun W (hW : Below W14.heap.size W14 W) => Bound_at W gn k x N ((S14.out.2 (gn, some N) (by simp)).up hW) HKT.out HX6.out)
            have HUC := Lib.hid (show U k = updB U x (true, 7) k by unfold updB; rw [if_neg hkx])
            clear hkx
            obtain ⟨ui, hui⟩ : ∃ b, b = (U k).1 := ⟨_, rfl⟩
            obtain ⟨uc, huc⟩ : ∃ b, b = (U k).2 := ⟨_, rfl⟩
            obtain ⟨di, hdi⟩ : ∃ b, b = (D k).1 := ⟨_, rfl⟩
            obtain ⟨dc, hdc⟩ : ∃ b, b = (D k).2 := ⟨_, rfl⟩
            obtain ⟨nu, hnu⟩ : ∃ b, b = N x k := ⟨_, rfl⟩
            obtain ⟨nd, hnd⟩ : ∃ b, b = N k x := ⟨_, rfl⟩
            rw [← hui, ← huc] at hru
            rw [← hdi, ← hdc] at hrd
            rw [← hui, ← huc, ← hnu] at hpu
            rw [← hdi, ← hdc, ← hnd] at hpd
            rw [← hnu] at HBU hou
            rw [← hnd] at HBD hod
            have HUI := Lib.hid hui
            have HUCC := Lib.hid huc
            have HDI2 := Lib.hid hdi
            have HDCC := Lib.hid hdc
            clear hui huc hdi hdc hnu hnd
            obtain ⟨pi, pc, hpv⟩ := bv_form (bnd nu)
            obtain ⟨ri, rc, hrv⟩ := bv_form (bnd nd)
            have HPV := Lib.hid hpv
            have HRV := Lib.hid hrv
            clear hpv hrv
            have HPW := Lib.hid (show ui = true → pi = true ∧ pc ≤ uc by
              intro h
              have h1 := hpu h
              have h2 := ok_of_rng (hru h)
              have h3 := hru h
              unfold rngB at h3
              simp at h3
              have h4 := HPV.out
              unfold bnd at h4
              rw [if_neg (by omega)] at h4
              simp only [bv, Value.agg.injEq, Array.mk.injEq, List.cons.injEq, Value.bool.injEq, Value.int.injEq, true_and, and_true] at h4
              exact ⟨h4.1.symm, by omega⟩)
            have HRW := Lib.hid (show di = true → ri = true ∧ rc ≤ dc by
              intro h
              have h1 := hpd h
              have h2 := ok_of_rng (hrd h)
              have h3 := hrd h
              unfold rngB at h3
              simp at h3
              have h4 := HRV.out
              unfold bnd at h4
              rw [if_neg (by omega)] at h4
              simp only [bv, Value.agg.injEq, Array.mk.injEq, List.cons.injEq, Value.bool.injEq, Value.int.injEq, true_and, and_true] at h4
              exact ⟨h4.1.symm, by omega⟩)
            clear hpu hpd hru hrd hou hod
            go_upto_region 27 with (fail)
            clear t1
            go_wp2_with fail
            go_at_call 18
            refine (HBU.out _ HB.out).mono ?_
            rintro e V1 ⟨rfl, hW1⟩
            rw [HPV.out]
            have HB1 := Lib.hid (HB.out.trans (hW1.mono HB.out.size))
            clear hW1
            go_upto_region 28 with (fail)
            have hub := Blk.new V1 38 #[.bool pi, .int .i64 pc]
            have HB2 := Lib.hid (HB1.out.trans ((below_box V1 (.cells #[.bool pi, .int .i64 pc] 38)).mono HB1.out.size))
            generalize V1.alloc (.cells #[.bool pi, .int .i64 pc] 38) = V2 at *
            generalize V1.heap.size = g22 at *
            have HUB := Lib.hid hub
            clear hub HB1
            go_wp2_with fail
            go_at_call 18
            refine (HBD.out _ HB2.out).mono ?_
            rintro e V3 ⟨rfl, hW3⟩
            rw [HRV.out]
            have HUB3 := Lib.hid (HUB.out.below hW3 HUB.out.lt)
            have HB3 := Lib.hid (HB2.out.trans (hW3.mono HB2.out.size))
            clear hW3 HUB HB2
            go_upto_region 29 with (fail)
            have hdb := Blk.new V3 38 #[.bool ri, .int .i64 rc]
            have hbox := below_box V3 (.cells #[.bool ri, .int .i64 rc] 38)
            have HB4 := Lib.hid (HB3.out.trans (hbox.mono HB3.out.size))
            have hub4 := HUB3.out.below hbox HUB3.out.lt
            generalize V3.alloc (.cells #[.bool ri, .int .i64 rc] 38) = V4 at *
            generalize V3.heap.size = g23 at *
            have u0 : V4.cell? ⟨g22, 0, none⟩ = some (.bool pi) := hub4.cell 0
            have u1 : V4.cell? ⟨g22, 1, none⟩ = some (.int .i64 pc) := hub4.cell 1
            have d0 : V4.cell? ⟨g23, 0, none⟩ = some (.bool ri) := hdb.cell 0
            have d1 : V4.cell? ⟨g23, 1, none⟩ = some (.int .i64 rc) := hdb.cell 1
            have hgu4 : BvAt V4 gu (updB U x (true, 7)) := BvAt.up Hgu.out HB4.out
            have a0 : V4.cell? ⟨gu, k * 2, none⟩ = some (.bool ui) := by rw [hgu4.is_ k HKT.out, ← HUC.out, HUI.out]
            have a1 : V4.cell? ⟨gu, k * 2 + 1, none⟩ = some (.int .i64 uc) := by rw [hgu4.c_ k HKT.out, ← HUC.out, HUCC.out]
            have hgd4 : BvAt V4 gd D := BvAt.up Hgd.out HB4.out
            have b0 : V4.cell? ⟨gd, k * 2, none⟩ = some (.bool di) := by rw [hgd4.is_ k HKT.out, HDI2.out]
            have b1 : V4.cell? ⟨gd, k * 2 + 1, none⟩ = some (.int .i64 dc) := by rw [hgd4.c_ k HKT.out, HDCC.out]
            clear hub4 hdb hbox HUB3 HB3 HBU HBD hgu4 hgd4 HPV HRV
            have hcase : (ui = false ∨ (ui = true ∧ pi = true ∧ decide (uc < pc) = false)) := by cases ui; exact .inl rfl; exact .inr ⟨rfl, (HPW.out rfl).1, decide_eq_false (by have := (HPW.out rfl).2; omega)⟩
            have dcase : (di = false ∨ (di = true ∧ ri = true ∧ decide (dc < rc) = false)) := by cases di; exact .inl rfl; exact .inr ⟨rfl, (HRW.out rfl).1, decide_eq_false (by have := (HRW.out rfl).2; omega)⟩
            clear HPW HRW
            rcases hcase with rfl | ⟨rfl, rfl, tu⟩ <;> rcases dcase with rfl | ⟨rfl, rfl, td⟩
            all_goals
              go_quiet (fail)
              have HB5 := Lib.hid (below_drewN' HB4.out nq)
              go_wp2_with fail
              go_roundw
              case rel => exact ⟨k + 1, by have := HKT.out; omega, by go_num, HB5.out⟩
              case measure => simp [intOf]; omega
        · obtain rfl : k = 60 := by omega
          have SB := Lib.hid (S14.out.1.trans (hB.mono S14.out.1.size))
          clear hB
          go_wp2_with fail
          go_at_call 14
          refine (awake_any _).mono ?_
          rintro e WZ ⟨rfl, hB⟩
          have SZ := Lib.hid (SB.out.trans (hB.mono SB.out.size))
          clear hB
          go_wp2_with fail
          go_ret
          exact ⟨rfl, SZ.out⟩
end Go.Proofs.Ytockoolcdhgopaa
