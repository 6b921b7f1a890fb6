/- Contracts of package zone: closed, Close. -/
import Derived.Test.YtejcijbohnlbgaaZN
namespace Go.Proofs.Ytejcijbohnlbgaa
open Go.ChangeShapes Go.WideShapes Go.ChangeAt Go.RowKit
open Zon
set_option linter.unusedVariables false
set_option maxRecDepth 100000
/-- the first k rows made lower by ways through one variable -/
def passT (M : Tab) (v k : Nat) : Tab := fun p q => if p < k then stepF M v p q else M p q
set_option maxHeartbeats 8000000 in
theorem closed_any (w : World) (g : Nat) (M : Tab) (A : Option Addr) (n c : Nat) (L : List Con) (hz : ZB w g false M) (hM : OkT M) (hL : L.length = n) (hn : n ≤ 4000000000000000000) (h : ConsAt w A L) (hf : 0 < L.length → Far A g) (hok : ∀ x ∈ L, wrong1 x = 0) :
    Calls Try.prog 46 #[.pointer (some ⟨g, 1, none⟩), .slice A n c] w (AddPost w g (closeM M L)) := by
  have HA := Lib.hid h
  have HL := Lib.hid hL
  have HZ := Lib.hid hz
  have HM := Lib.hid hM
  have HO := Lib.hid hok
  have HF := Lib.hid hf
  clear h hL hz hM hok hf
  go_enter Try.func46, Try.ntmps46
  go_wp2_with fail
  go_loopw [13] (fun i wr => ∃ k : Nat, k ≤ n ∧ i = .int .i64 k ∧ Touch g w wr ∧ ZB wr g false ((L.take k).foldl minT M) ∧ OkT ((L.take k).foldl minT M)) (fun i _ => (n - intOf i).toNat)
  case atStart => exact ⟨0, Nat.zero_le _, rfl, Touch.refl _ _, HZ.out, HM.out⟩
  case round =>
    obtain ⟨k, hk, rfl, hT, hB, hK⟩ := hrel
    by_cases hlt : k < n
    · have hlt' : (k : Int) < n := by omega
      obtain ⟨b, off, rfl, hbl, -⟩ := HA.out (by have := HL.out; omega)
      obtain ⟨x, hx, hbl2, x0, x1, x2⟩ := (HA.out.touch (HF.out (by have := HL.out; omega)) hT).get (k := k) (by have := HL.out; omega)
      have hx0 := HO.out x (List.mem_of_getElem? hx)
      obtain ⟨⟨g1, g2⟩, ⟨g3, g4⟩, g5⟩ := wrong1_zero hx0
      have hrg : rngB x.c = true := by unfold rngB; simp; omega
      obtain ⟨ni, hni⟩ : ∃ ni : Nat, x.i = ni := ⟨x.i.toNat, by omega⟩
      obtain ⟨nj, hnj⟩ : ∃ nj : Nat, x.j = nj := ⟨x.j.toNat, by omega⟩
      have hni' : ni < 60 := by omega
      have hnj' : nj < 60 := by omega
      have hT1 : (L.take (k + 1)).foldl minT M = minT ((L.take k).foldl minT M) x := by rw [take_next L k x hx, List.foldl_append]; rfl
      have hK1 := okT_min hK hrg
      rw [← hT1] at hK1
      have HK1 := Lib.hid hK1
      have HT1 := Lib.hid hT1
      rw [hni] at x0
      rw [hnj] at x1
      have HNI := Lib.hid (show x.i.toNat = ni by omega)
      have HNJ := Lib.hid (show x.j.toNat = nj by omega)
      have HXC := Lib.hid (show ∃ xc, x.c = xc from ⟨_, rfl⟩)
      have HB := Lib.hid hB
      have HT := Lib.hid hT
      have ni1 : (ni : Int) < 60 := by omega
      have nj1 : (nj : Int) < 60 := by omega
      have ni0 : (0 : Int) ≤ ni := by omega
      have nj0 : (0 : Int) ≤ nj := by omega
      generalize (L.take k).foldl minT M = N at *
      clear hx hx0 g1 g2 g3 g4 g5 hrg hni hnj hT hB hbl2 hT1 hK1 hK HXC
      go_upto_region 4 with (fail)
      obtain ⟨w2, hw2⟩ : ∃ w2, w2 = wr.alloc (.cells #[.int .i64 ni, .int .i64 nj, .int .i64 x.c] 45) := ⟨_, rfl⟩
      have hb2 := Blk.new wr 45 #[.int .i64 ni, .int .i64 nj, .int .i64 x.c]
      rw [← hw2] at hb2 ⊢
      have hz2 : ZB w2 g false N := by rw [hw2]; exact HB.out.up (below_box wr _)
      have ht2 : Touch g w w2 := by rw [hw2]; exact HT.out.trans (Touch.alloc wr _)
      obtain ⟨gc, hgc⟩ : ∃ x, x = wr.heap.size := ⟨_, rfl⟩
      rw [← hgc] at hb2 ⊢
      have hne : gc ≠ g := by have := HB.out.lt; omega
      clear hw2 HB HT hgc
      refine wp_region_tail 20 (by kernel_rfl) (by kernel_rfl) fun W hW => ?_
      simp only [List.take_succ_cons, List.take_zero, List.drop_succ_cons, List.drop_zero]
      have hBW : ZB W g false N := by rw [hW]; exact hz2
      have hTW : Touch g w W := by rw [hW]; exact ht2.trans (Touch.drewN w2 1)
      have hc : Blk W gc 45 #[.int .i64 ni, .int .i64 nj, .int .i64 x.c] := by rw [hW]; exact hb2
      have c0 : W.cell? ⟨gc, 0, none⟩ = some (.int .i64 ni) := hc.cell 0
      have c1 : W.cell? ⟨gc, 1, none⟩ = some (.int .i64 nj) := hc.cell 1
      have c2 : W.cell? ⟨gc, 2, none⟩ = some (.int .i64 x.c) := hc.cell 2
      have hxW := hBW.at_ ni nj hni' hnj'
      have hfW := hBW.frozen (1 + ni * 60 + nj)
      have HBn := Lib.hid (hBW.set (N := (L.take (k + 1)).foldl minT M) ni nj (if x.c < N ni nj then x.c else N ni nj) hni' hnj' fun a b ha hb => by
        rw [HT1.out]
        unfold minT
        rw [HNI.out, HNJ.out]
        by_cases h1 : a = ni ∧ b = nj
        · rw [if_pos h1, if_pos h1, h1.1, h1.2]; omega
        · rw [if_neg h1, if_neg h1])
      have HTn := Lib.hid (hTW.trans (Touch.set_ W (1 + ni * 60 + nj) (.int .i64 (if x.c < N ni nj then x.c else N ni nj))))
      clear hBW hTW hW hc hb2 hz2 ht2
      iterate 20 still_step
      refine wpStill_nil ?_
      go_wp2_with fail
      go_roundw
      case rel => exact ⟨k + 1, by omega, by go_num, HTn.out, HBn.out, HK1.out⟩
      case measure => simp [intOf]; omega
    · obtain rfl : k = n := by omega
      have hjn : decide ((k : Int) < k) = false := decide_eq_false (by omega)
      rw [List.take_of_length_le (by rw [HL.out]; omega)] at hB hK
      have HR := Lib.hid (show closeM M L = if negT (floydT (L.foldl minT M) 60) then none else some (floydT (L.foldl minT M) 60) from rfl)
      generalize closeM M L = R at *
      generalize L.foldl minT M = S at *
      have HS := Lib.hid hB
      have HSK := Lib.hid hK
      have HTS := Lib.hid hT
      clear hB hK hT HA HL HZ HM HO HF
      go_wp2_with fail
      obtain ⟨wo, rfl⟩ : ∃ wo : World, wo = wr := ⟨_, rfl⟩
      go_loopw [38] (fun i wr => ∃ k : Nat, k ≤ 60 ∧ i = .int .i64 k ∧ Touch g w wr ∧ ZB wr g false (floydT S k)) (fun i _ => (60 - intOf i).toNat)
      case atStart => exact ⟨0, Nat.zero_le _, rfl, HTS.out, HS.out⟩
      case round =>
        clear HS HTS
        obtain ⟨v, hv, rfl, hT, hB⟩ := hrel
        by_cases hlv : v < 60
        · have hlv' : (v : Int) < 60 := by omega
          have hv0 : (0 : Int) ≤ v := by omega
          have HOKV := Lib.hid (okT_floyd HSK.out v)
          have HFS := Lib.hid (floydT_succ S v)
          generalize floydT S v = F at *
          have HB := Lib.hid hB
          have HT := Lib.hid hT
          clear hB hT
          go_upto_region 10 with (first
            | (refine wpList_load_seg rfl 101 _ rfl g (1 + v * 60) rfl 106 3601 60 (zc false F) _ HB.out (by omega) Try.underlying101 rfl sizeRow ?_)
            | (refine wpList_alloc_seg rfl 101 rfl 60 (fun _ => .int .i64 0) zeroRow ?_; intro w2 hb2 hB2 hs2)
            | (refine wpList_store_all rfl 101 _ _ rfl wr.heap.size 101 60 _ (fun q => zc false F (1 + v * 60 + q)) rfl rfl hb2 sizeRow (fun q hq => by rw [zc_at false F v q hq]; rfl) ?_; intro w3 hb3 hT3 hs3))
          obtain ⟨g9, hg9⟩ : ∃ x, x = wr.heap.size := ⟨_, rfl⟩
          rw [← hg9] at hb3 hT3 ⊢
          have hne : g9 ≠ g := by have := HB.out.lt; omega
          have HNE := Lib.hid hne
          have HR3 := Lib.hid hb3
          have HZ3 := Lib.hid ((HB.out.up hB2).touch hT3 (fun e => hne e.symm))
          have HT3 := Lib.hid (HT.out.trans (show Touch g wr w3 from ⟨hT3.os.trans hB2.os, hT3.tape.trans hB2.tape, hT3.output.trans hB2.output, by have := hT3.size; have := hB2.size; omega, fun k hk _ => (hT3.block k (by omega) (by omega)).trans (hB2.block k hk)⟩))
          clear hb3 hB2 hs2 hs3 hT3 hb2 hne hg9 HB HT
          go_wp2_with fail
          obtain ⟨wq, rfl⟩ : ∃ wq : World, wq = wr := ⟨_, rfl⟩
          go_loopw [46] (fun i wr => ∃ k : Nat, k ≤ 60 ∧ i = .int .i64 k ∧ Touch g w wr ∧ ZB wr g false (passT F v k) ∧ FB wr g9 101 60 (fun q => zc false F (1 + v * 60 + q))) (fun i _ => (60 - intOf i).toNat)
          case atStart => exact ⟨0, Nat.zero_le _, rfl, HT3.out, HZ3.out.congr fun p q _ _ => by unfold passT; rw [if_neg (by omega)], HR3.out⟩
          case round =>
            clear HR3 HZ3 HT3
            obtain ⟨k, hk, rfl, hT, hB, hR⟩ := hrel
            by_cases hlt : k < 60
            · have hlt' : (k : Int) < 60 := by omega
              have hk0 : (0 : Int) ≤ k := by omega
              have hs1 : passT F v k k v = F k v := by unfold passT; rw [if_neg (by omega)]
              have HK := Lib.hid hB
              have HKR := Lib.hid hR
              have HKT := Lib.hid hT
              clear hB hR hT
              go_upto_region 13 with (fail)
              refine wp_region_tail 11 (by kernel_rfl) (by kernel_rfl) fun W hW => ?_
              simp only [List.take_succ_cons, List.take_zero, List.drop_succ_cons, List.drop_zero]
              have hBW : ZB W g false (passT F v k) := by rw [hW]; exact HK.out
              have hTW : Touch g w W := by rw [hW]; exact HKT.out.trans (Touch.drewN wr 1)
              have HRW := Lib.hid (show FB W g9 101 60 (fun q => zc false F (1 + v * 60 + q)) by rw [hW]; exact HKR.out)
              have x1 := hBW.at_ k v hlt hlv
              rw [hs1] at x1
              have HBW := Lib.hid hBW
              have HTW := Lib.hid hTW
              clear hBW hTW hW hs1 HK HKR HKT
              iterate 11 still_step
              refine wpStill_nil ?_
              clear x1
              go_wp2_with fail
              go_at_call 73
              refine (lower_any W g (1 + k * 60) _ 3601 _ g9 0 _ 60 _ (F k) (F v) (F k v) HBW.out HRW.out HNE.out (by omega) (by omega) (fun q hq => ?_) (fun q hq => ?_) (fun q hq => (HOKV.out k q hlt hq).rng) (fun q hq => (HOKV.out v q hlv hq).rng) (HOKV.out k v hlt hlv).rng).mono ?_
              · rw [zc_at _ _ _ _ hq]; unfold passT; rw [if_neg (by omega)]
              · rw [Nat.zero_add, zc_at _ _ _ _ hq]
              rintro e w4 ⟨rfl, hB4, hT4⟩
              have HZ4 := Lib.hid (show ZB w4 g false (passT F v (k + 1)) from ZB.row hB4 hlt fun a q ha hq => by
                unfold passT
                by_cases e : a = k
                · rw [if_pos e, if_pos (by omega), e]; rfl
                · rw [if_neg e]
                  by_cases e2 : a < k
                  · rw [if_pos e2, if_pos (by omega)]
                  · rw [if_neg e2, if_neg (by omega)])
              have HT4 := Lib.hid (HTW.out.trans hT4)
              have HR4 := Lib.hid (HRW.out.touch hT4 HNE.out)
              clear hB4 hT4 HBW HTW HRW
              go_wp2_with fail
              go_roundw
              case rel => exact ⟨k + 1, by omega, by go_num, HT4.out, HZ4.out, HR4.out⟩
              case measure => simp [intOf]; omega
            · obtain rfl : k = 60 := by omega
              have HB := Lib.hid (hB.congr (N := floydT S (v + 1)) fun p q hp _ => by rw [HFS.out]; unfold passT; rw [if_pos hp])
              have HT := Lib.hid hT
              clear hB hT hR
              go_wp2_with fail
              go_roundw
              case rel => exact ⟨v + 1, by omega, by go_num, HT.out, HB.out⟩
              case measure => simp [intOf]; omega
        · obtain rfl : v = 60 := by omega
          generalize floydT S 60 = F at *
          have HB := Lib.hid hB
          have HT := Lib.hid hT
          clear hB hT HSK
          go_wp2_with fail
          go_loop [63] (fun i => ∃ k : Nat, k ≤ 60 ∧ i = .int .i64 k ∧ ∀ p, p < k → 0 ≤ F p p) (fun i => (60 - intOf i).toNat)
          case atStart => exact ⟨0, Nat.zero_le _, rfl, fun p hp => absurd hp (by omega)⟩
          case round =>
            obtain ⟨k, hk, rfl, hneg⟩ := hrel
            by_cases hlt : k < 60
            · have hlt' : (k : Int) < 60 := by omega
              have hk0 : (0 : Int) ≤ k := by omega
              have x1 := HB.out.at_ k k hlt hlt
              have HNG := Lib.hid hneg
              clear hneg
              by_cases h0 : F k k < 0
              · have t1 : decide (F k k < 0) = true := decide_eq_true h0
                have HXn := Lib.hid (show R = none by rw [HR.out, negT_true hlt h0]; rfl)
                clear h0
                go_wp2_with fail
                go_ret
                exact addPost_no HT.out HXn.out HB.out
              · have t1 : decide (F k k < 0) = false := decide_eq_false h0
                have HN4 := Lib.hid (show ∀ p, p < k + 1 → 0 ≤ F p p from fun p hp => by
                  by_cases e : p = k
                  · rw [e]; omega
                  · exact HNG.out p (by omega))
                clear h0
                go_wp2_with fail
                go_round
                case rel => exact ⟨k + 1, by omega, by go_num, HN4.out⟩
                case measure => simp [intOf]; omega
            · obtain rfl : k = 60 := by omega
              have HXy := Lib.hid (show R = some F by rw [HR.out, negT_false.mpr hneg]; rfl)
              clear hneg
              go_wp2_with fail
              go_ret
              exact addPost_yes HT.out HXy.out HB.out
set_option maxHeartbeats 1000000 in
theorem closeClo_any (w : World) (g bx : Nat) (M : Tab) (A : Option Addr) (n c : Nat) (L : List Con) (hz : ZB w g false M) (hM : OkT M) (hL : L.length = n) (hn : n ≤ 4000000000000000000) (h : ConsAt w A L) (hf : 0 < L.length → Far A g) (hok : ∀ x ∈ L, wrong1 x = 0)
    (hx : w.cell? ⟨bx, 0, none⟩ = some (.slice A n c)) :
    Calls Try.prog 45 #[.pointer (some ⟨g, 1, none⟩), .pointer (some ⟨bx, 0, none⟩)] w (AddPost w g (closeM M L)) := by
  have HC := Lib.hid (closed_any w g M A n c L hz hM hL hn h hf hok)
  clear hz hM hL h hf hok
  go_enter Try.func45, Try.ntmps45
  go_wp2_with fail
  go_at_call 46
  refine HC.out.mono ?_
  rintro e w4 ⟨hT, h4⟩
  have HT := Lib.hid hT
  clear hT
  rcases h4 with ⟨N', hz', rfl, hB'⟩ | ⟨hz', rfl, N', hB'⟩
  · have HB' := Lib.hid hB'
    have HZ' := Lib.hid hz'
    clear hB' hz' HC
    go_wp2_with fail
    go_ret
    exact addPost_yes HT.out HZ'.out HB'.out
  · have HB' := Lib.hid hB'
    have HZ' := Lib.hid hz'
    clear hB' hz' HC
    go_wp2_with fail
    go_ret
    exact addPost_no HT.out HZ'.out HB'.out
theorem okZ_close (M : Tab) (L : List Con) (hM : OkT M) (hL : ∀ x ∈ L, wrong1 x = 0) : OkZ (closeM M L) := by
  have h1 : ∀ (L : List Con) (M : Tab), OkT M → (∀ x ∈ L, wrong1 x = 0) → OkT (L.foldl minT M) := by
    intro L
    induction L with
    | nil => intro M h _; exact h
    | cons x L ih =>
      intro M h hL
      obtain ⟨_, _, g5⟩ := wrong1_zero (hL x (by simp))
      exact ih _ (okT_min h (by unfold rngB; simp; omega)) (fun y hy => hL y (by simp [hy]))
  intro N hN
  unfold closeM at hN
  split at hN
  · cases hN
  · injection hN with e; subst e; exact okT_floyd (h1 L M hM hL) 60
set_option maxHeartbeats 1000000 in
theorem Close_any (w : World) (A : Option Addr) (n c : Nat) (L : List Con) (hL : L.length = n) (hn : n ≤ 4000000000000000000) (h : ConsAt w A L) :
    Calls Try.prog 10 #[.slice A n c] w (MadeE w (wrongL L) (closeZ L)) := by
  have HW := Lib.hid (fun W (hW : Below w.heap.size w W) => wrong_any W A n c L hL hn (h.below hW))
  have HL := Lib.hid hL
  have HA := Lib.hid h
  clear hL h
  go_enter Try.func10, Try.ntmps10
  go_wp2_with fail
  go_at_call 41
  refine (HW.out _ (below_box w _)).mono ?_
  rintro e w2 ⟨rfl, hB2⟩
  have hx : w2.cell? ⟨w.heap.size, 0, none⟩ = some (.slice A n c) := by
    rw [hB2.cell (p := ⟨w.heap.size, 0, none⟩) (by simp)]; simp [go_sem]
  have HLT := Lib.hid (show w.heap.size < w2.heap.size by have := hB2.size; simp at this; omega)
  have HX := Lib.hid hx
  have HB2 := Lib.hid ((below_box w _).trans (hB2.mono (by simp)))
  clear hB2 HW
  by_cases h0 : wrongL L = 0
  · have t : (wrongL L == 0) = true := by rw [h0]; rfl
    have t' : (wrongL L != 0) = false := by rw [h0]; rfl
    have H0 := Lib.hid h0
    have HO := Lib.hid (wrongL_zero h0)
    generalize wrongL L = E at *
    clear h0
    go_wp2_with fail
    go_at_call 8
    refine (new_any w2).mono ?_
    rintro e w2n ⟨g, rfl, hg, hzn, hBn⟩
    have HZ := Lib.hid (zoneAt_new hzn)
    have HXn := Lib.hid (show w2n.cell? ⟨w.heap.size, 0, none⟩ = some (.slice A n c) by rw [hBn.cell (p := ⟨w.heap.size, 0, none⟩) HLT.out]; exact HX.out)
    have HBn := Lib.hid (HB2.out.trans (hBn.mono HB2.out.size))
    have HLn := Lib.hid (show w.heap.size < w2n.heap.size by have := hBn.size; have := HLT.out; omega)
    clear hg hzn hBn hx HX
    go_wp2_with fail
    go_at_call 42
    refine (changed_any w2n g 45 #[.pointer (some ⟨w.heap.size, 0, none⟩)] (some topT) (fun M => closeM M L) (fun _ _ => by kernel_rfl) HZ.out (fun M N hM hN => ?_) (fun M W g' hM hW hg' hBW => ?_)).mono ?_
    · injection hM with e; subst e; exact okZ_close _ L okT_top HO.out N hN
    · have hA := (HA.out.below HBn.out).below hBW
      have hcell : W.cell? ⟨w.heap.size, 0, none⟩ = some (.slice A n c) := by
        rw [hBW.cell (p := ⟨w.heap.size, 0, none⟩) HLn.out]; exact HXn.out
      have hOK : OkT M := by injection hM with e; subst e; exact okT_top
      exact closeClo_any W g' w.heap.size M A n c L hW hOK HL.out hn hA (Far.of_lt (HA.out.below HBn.out) hg') HO.out hcell
    rintro e w3 ⟨g', rfl, hg', hz', hB3⟩
    have HZ' := Lib.hid (show ZoneAt w3 g' (closeZ L) from hz')
    have HB3 := Lib.hid (HBn.out.trans (hB3.mono HBn.out.size))
    have HG' := Lib.hid (Nat.le_trans HBn.out.size hg')
    clear hz' hB3 hg'
    go_wp2_with fail
    go_ret2
    exact .inl ⟨H0.out, g', rfl, HG'.out, HZ'.out, HB3.out⟩
  · have t : (wrongL L == 0) = false := by rw [beq_eq_false_iff_ne]; exact h0
    have t' : (wrongL L != 0) = true := by rw [bne_iff_ne]; exact h0
    have H0 := Lib.hid h0
    generalize wrongL L = E at *
    clear h0
    go_wp2_with fail
    go_ret2
    exact .inr ⟨H0.out, rfl, HB2.out⟩
end Go.Proofs.Ytejcijbohnlbgaa
