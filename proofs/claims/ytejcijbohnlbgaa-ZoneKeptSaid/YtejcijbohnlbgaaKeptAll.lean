/- Texts in one: ZKs ZRd ZRe ZKu ZKv ZKp ZKq ZKr ZKw ZKt ZoneKeptLaw. -/
import Derived.Test.YtejcijbohnlbgaaZOrd
import Derived.Test.YtejcijbohnlbgaaZRc
import Derived.Test.YtejcijbohnlbgaaZOp2
import Derived.Maps.AppendAt
import Derived.Test.YtejcijbohnlbgaaZPt
import Derived.Test.YtejcijbohnlbgaaZX
import Derived.Test.YtejcijbohnlbgaaZN
import Derived.Test.YtejcijbohnlbgaaZoneM9
/- The law's roomy: bounds with marks behind them. -/
namespace Go.Proofs.Ytejcijbohnlbgaa
open Go.ChangeShapes Go.WideShapes Go.ChangeAt Go.RowKit
open Zon
set_option linter.unusedVariables false
set_option maxRecDepth 100000
def markC : Con := ⟨-7, -8, 9⟩
def roomL (L : List Con) (k : Nat) : List Con := L ++ List.replicate k markC
theorem roomL_next (L : List Con) (k : Nat) : roomL L (k + 1) = roomL L k ++ [⟨-7, -8, 9⟩] := by
  unfold roomL
  rw [List.replicate_succ', List.append_assoc]
  rfl
theorem roomL_len (L : List Con) (k : Nat) : (roomL L k).length = L.length + k := by unfold roomL; simp
set_option maxHeartbeats 2000000 in
theorem roomy_any (w : World) (A : Option Addr) (n c : Nat) (L : List Con) (hL : L.length = n) (hn : n ≤ 6000000000000) (h : ConsAt w A L) :
    Calls Try.prog 7 #[.slice A n c] w (fun e w' => ∃ A' c', e = .returned (.tuple #[.slice A' n c', .slice A' (n + 70) c']) ∧ OwnC 45 w' w.heap.size (.slice A' (n + 70) c') (roomL L 70) ∧ Below w.heap.size w w') := by
  have HL := Lib.hid hL
  have HA := Lib.hid h
  have HCO := Lib.hid (cons_any w A n c L hL (by omega) h)
  clear hL h
  go_enter Try.func7, Try.ntmps7
  go_wp2_with fail
  go_at_call 39
  refine HCO.out.mono ?_
  rintro e w1 ⟨v1, rfl, hO, hB⟩
  have HO := Lib.hid (show OwnC 45 w1 w.heap.size v1 (roomL L 0) by unfold roomL; rw [List.replicate_zero, List.append_nil]; exact hO)
  have HB := Lib.hid hB
  clear hO hB HCO
  go_wp2_with fail
  go_loopw [5, 4] (fun i v wr => ∃ k : Nat, k ≤ 70 ∧ i = .int .i64 k ∧ OwnC 45 wr w.heap.size v (roomL L k) ∧ Below w.heap.size w wr) (fun i _ _ => (70 - intOf i).toNat)
  case atStart => exact ⟨0, by omega, rfl, HO.out, HB.out⟩
  case round =>
    clear HO HB
    obtain ⟨k, hk, rfl, hO, hB⟩ := hrel
    by_cases hlt : k < 70
    · have hlt' : (k : Int) < 70 := by omega
      have hk0 : (0 : Int) ≤ k := by omega
      have HKT := Lib.hid hlt
      have HO := Lib.hid hO
      have HB := Lib.hid hB
      have HLEN := Lib.hid (show (roomL L k).length + 1 ≤ 8000000000000 by rw [roomL_len]; have := HL.out; omega)
      have HNX := Lib.hid (roomL_next L k)
      obtain ⟨A2, m, c2, rfl, HMM⟩ := hO.form'
      have HSZ := Lib.hid (fun o => Nat.le_trans HB.out.size (below_box wr o).size)
      clear hO hB hlt
      generalize roomL L k = R at *
      go_upto_region 5 with (fail)
      go_wp2_with (at_builtin; (refine append_con 28 45 Try.underlying28 con_info _ rfl (.tmp 12) (.tmp 14) rfl w.heap.size _ _ rfl (HO.out.up (below_box wr _)) _ 1 _ [_] rfl rfl (cons_one wr _ _ _ _) HLEN.out (HSZ.out _) ?_; intro v' w' hown' hB'))
      go_roundw
      case rel => exact ⟨k + 1, by have := HKT.out; omega, by go_num, by rw [HNX.out]; exact hown', HB.out.trans (((below_box wr _).mono HB.out.size).trans hB')⟩
      case measure => simp [intOf]; omega
    · obtain rfl : k = 70 := by omega
      obtain ⟨A3, c3, e3, h3⟩ := hO.form
      subst e3
      rw [roomL_len, HL.out] at hO ⊢
      have hnc : n ≤ c3 := by rw [roomL_len, HL.out] at h3; omega
      have hncI : (n : Int) ≤ c3 := by omega
      have hn0 : (0 : Int) ≤ n := by omega
      have HO := Lib.hid hO
      have HB := Lib.hid hB
      clear hO hB h3
      go_wp2_with fail
      go_ret2
      exact ⟨A3, c3, rfl, HO.out, HB.out⟩
end Go.Proofs.Ytejcijbohnlbgaa
/- The document's zone: one, With. -/
namespace Go.Proofs.Ytejcijbohnlbgaa
open Go.ChangeShapes Go.WideShapes Go.ChangeAt Go.RowKit
open Zon
set_option linter.unusedVariables false
set_option maxRecDepth 100000
/-- the table while ways through a new bound are taken, the rows below i done and of row i the places below j -/
def adK (M : Tab) (a b : Nat) (c : Int) (i j : Nat) : Tab := fun p q => if p < i ∨ (p = i ∧ q < j) then rN (addT M a b c p q) else rN (M p q)
theorem adK_step {M : Tab} {a b : Nat} {c : Int} {i j : Nat} (p q : Nat) : (if p = i ∧ q = j then rN (addT M a b c i j) else adK M a b c i j p q) = adK M a b c i (j + 1) p q := by
  unfold adK
  by_cases e : p = i ∧ q = j
  · rw [if_pos e, if_pos (show p < i ∨ (p = i ∧ q < j + 1) by omega), e.1, e.2]
  · rw [if_neg e]
    by_cases e2 : p < i ∨ (p = i ∧ q < j)
    · rw [if_pos e2, if_pos (show p < i ∨ (p = i ∧ q < j + 1) by omega)]
    · rw [if_neg e2, if_neg (show ¬ (p < i ∨ (p = i ∧ q < j + 1)) by omega)]
theorem adK_row {M : Tab} {a b : Nat} {c : Int} {i : Nat} (p q : Nat) (hq : q < 60) : adK M a b c i 60 p q = adK M a b c (i + 1) 0 p q := by
  unfold adK
  by_cases e2 : p < i ∨ (p = i ∧ q < 60)
  · rw [if_pos e2, if_pos (show p < i + 1 ∨ (p = i + 1 ∧ q < 0) by omega)]
  · rw [if_neg e2, if_neg (show ¬ (p < i + 1 ∨ (p = i + 1 ∧ q < 0)) by omega)]
theorem ad_none {M : Tab} (hM : OkT M) {a b : Nat} {c : Int} {i : Nat} (hb : b < 60) (hi : i < 60) (h : psum (M i a) c = 3458764513820540928) (q : Nat) (hq : q < 60) : addT M a b c i q = M i q := by
  unfold addT
  rw [psum_no _ _ h (hM b q hb hq).rng.1, Int.min_eq_left (hM i q hi hq).rng.2]
theorem adK_skip {M : Tab} (hM : OkT M) {a b : Nat} {c : Int} {i : Nat} (hb : b < 60) (hi : i < 60) (h : psum (M i a) c = 3458764513820540928) (p q : Nat) (hp : p < 60) (hq : q < 60) : adK M a b c i 0 p q = adK M a b c (i + 1) 0 p q := by
  unfold adK
  by_cases e2 : p < i ∨ (p = i ∧ q < 0)
  · rw [if_pos e2, if_pos (show p < i + 1 ∨ (p = i + 1 ∧ q < 0) by omega)]
  · rw [if_neg e2]
    by_cases e : p = i
    · rw [if_pos (show p < i + 1 ∨ (p = i + 1 ∧ q < 0) by omega), e, ad_none hM hb hi h q hq]
    · rw [if_neg (show ¬ (p < i + 1 ∨ (p = i + 1 ∧ q < 0)) by omega)]
abbrev conV (x : Con) : Value := .agg #[.int .i64 x.i, .int .i64 x.j, .int .i64 x.c]
/-- the call's own boxes: the zone and the bound that came in -/
structure OneAt (w W : World) (g2 g3 g4 : Nat) (e : Bool) (T : Tab) (i j : Int) (c : Int) : Prop where
  z : RB W g2 e T
  r : RB W g4 false zeroM
  i_ : W.cell? ⟨g3, 0, none⟩ = some (.int .i64 i)
  j_ : W.cell? ⟨g3, 1, none⟩ = some (.int .i64 j)
  c_ : W.cell? ⟨g3, 2, none⟩ = some (.int .i64 c)
  l3 : g3 < W.heap.size
  h2 : w.heap.size ≤ g2
  h4 : w.heap.size ≤ g4
  n24 : g2 ≠ g4
  n34 : g3 ≠ g4
  b : Below w.heap.size w W
theorem OneAt.up {w W V : World} {g2 g3 g4 : Nat} {e : Bool} {T : Tab} {i j : Int} {c : Int} (h : OneAt w W g2 g3 g4 e T i j c) (hb : Below W.heap.size W V) : OneAt w V g2 g3 g4 e T i j c :=
  ⟨h.z.up hb, h.r.up hb, (hb.cell (p := ⟨g3, 0, none⟩) h.l3).trans h.i_, (hb.cell (p := ⟨g3, 1, none⟩) h.l3).trans h.j_, (hb.cell (p := ⟨g3, 2, none⟩) h.l3).trans h.c_, Nat.lt_of_lt_of_le h.l3 hb.size, h.h2, h.h4, h.n24, h.n34, h.b.trans (hb.mono h.b.size)⟩
theorem OneAt.touch {w W V : World} {g2 g3 g4 k : Nat} {e : Bool} {T : Tab} {i j : Int} {c : Int} (h : OneAt w W g2 g3 g4 e T i j c) (ht : Touch k W V) (n2 : g2 ≠ k) (n3 : g3 ≠ k) (n4 : g4 ≠ k) (hk : w.heap.size ≤ k) : OneAt w V g2 g3 g4 e T i j c :=
  ⟨h.z.touch ht n2, h.r.touch ht n4, (World.cell?_of_block (ht.block g3 h.l3 n3)).trans h.i_, (World.cell?_of_block (ht.block g3 h.l3 n3)).trans h.j_, (World.cell?_of_block (ht.block g3 h.l3 n3)).trans h.c_, Nat.lt_of_lt_of_le h.l3 ht.size, h.h2, h.h4, h.n24, h.n34, h.b.trans (ht.below hk h.b.size)⟩
theorem one_start (w w1 : World) (e : Bool) (T : Tab) (x : Con)
    (hb1 : FB w1 ((w.alloc (.cells (arr 3601 (zc e T)) 41)).alloc (.cells #[.int .i64 x.i, .int .i64 x.j, .int .i64 x.c] 99)).heap.size 41 3601 zr)
    (hB1 : Below ((w.alloc (.cells (arr 3601 (zc e T)) 41)).alloc (.cells #[.int .i64 x.i, .int .i64 x.j, .int .i64 x.c] 99)).heap.size ((w.alloc (.cells (arr 3601 (zc e T)) 41)).alloc (.cells #[.int .i64 x.i, .int .i64 x.j, .int .i64 x.c] 99)) w1) :
    OneAt w w1 w.heap.size (w.heap.size + 1) ((w.alloc (.cells (arr 3601 (zc e T)) 41)).alloc (.cells #[.int .i64 x.i, .int .i64 x.j, .int .i64 x.c] 99)).heap.size e T x.i x.j x.c := by
  have e1 : (w.alloc (.cells (arr 3601 (zc e T)) 41)).heap.size = w.heap.size + 1 := by simp
  have e2 : ((w.alloc (.cells (arr 3601 (zc e T)) 41)).alloc (.cells #[.int .i64 x.i, .int .i64 x.j, .int .i64 x.c] 99)).heap.size = w.heap.size + 2 := by simp
  have hz := FB.new w 41 3601 (zc e T)
  have hz2 := FB.alloc hz (.cells #[.int .i64 x.i, .int .i64 x.j, .int .i64 x.c] 99)
  have hc := Blk.new (w.alloc (.cells (arr 3601 (zc e T)) 41)) 99 #[.int .i64 x.i, .int .i64 x.j, .int .i64 x.c]
  rw [e1] at hc
  have hc1 : Blk w1 (w.heap.size + 1) 99 #[.int .i64 x.i, .int .i64 x.j, .int .i64 x.c] := hc.below hB1 (by rw [e2]; omega)
  refine ⟨FB.below hz2 hB1 (by rw [e2]; omega), FB.congr hb1 zr_zc, hc1.cell 0, hc1.cell 1, hc1.cell 2, hc1.lt, Nat.le_refl _, by rw [e2]; omega, by rw [e2]; omega, by rw [e2]; omega, ?_⟩
  exact ((below_box w _).trans ((below_box _ _).mono (by rw [e1]; omega))).trans (hB1.mono (by rw [e2]; omega))
set_option maxHeartbeats 2000000 in
theorem oneVoid_any (w : World) (T : Tab) (x : Con) : Calls Try.prog 47 #[rvV (true, T), conV x] w fun e w' => e = .returned (rvV (true, T)) ∧ Below w.heap.size w w' := by
  go_enter Try.func47, Try.ntmps47
  go_upto_region 1 with (
    refine wpList_alloc_seg rfl 41 rfl 3601 zr zeroZ ?_
    intro w1 hb1 hB1 hs1
    have HS0 := one_start w w1 true T x hb1 hB1
    clear hb1 hB1 hs1
    generalize ((w.alloc (.cells (arr 3601 (zc true T)) 41)).alloc (.cells #[.int .i64 x.i, .int .i64 x.j, .int .i64 x.c] 99)).heap.size = g4 at *
    obtain ⟨g2, hg2⟩ : ∃ g2, g2 = w.heap.size := ⟨_, rfl⟩
    obtain ⟨g3, hg3⟩ : ∃ g3, g3 = w.heap.size + 1 := ⟨_, rfl⟩
    rw [← hg3] at HS0 ⊢
    rw [← hg2] at HS0 ⊢
    have HS := Lib.hid HS0
    have HG3 := Lib.hid hg3
    have HG2 := Lib.hid hg2
    clear hg2 hg3 HS0)
  have y0 := HS.out.z.head
  go_wp2_with (first
    | (refine wpList_load_all rfl 41 _ rfl g2 rfl 41 3601 (zc true T) _ HS.out.z Try.underlying41 rfl sizeZ ?_)
    | (refine wpList_store_all rfl 41 _ _ rfl g4 41 3601 _ (zc true T) rfl rfl HS.out.r sizeZ (rz_one _ _) ?_; intro w7 h7 hT7 hs7))
  refine bodyPost_ret (result_z rfl _ _ g4 true T rfl h7) rfl ⟨rfl, ?_⟩
  exact HS.out.b.trans (hT7.below HS.out.h4 HS.out.b.size)
set_option maxHeartbeats 8000000 in
theorem one_any (w : World) (M : Tab) (x : Con) (hM : OkT M) (hd : Diag0 M) (hx : wrong1 x = 0) : Calls Try.prog 47 #[rvV (false, rT M), conV x] w fun e w' => e = .returned (rvV (rv (addZ M x.i.toNat x.j.toNat x.c))) ∧ Below w.heap.size w w' := by
  have HM := Lib.hid hM
  have HDI := Lib.hid hd
  obtain ⟨⟨g1, g2'⟩, ⟨g3', g4'⟩, g5⟩ := wrong1_zero hx
  obtain ⟨ni, hni⟩ : ∃ ni : Nat, x.i = ni := ⟨x.i.toNat, by omega⟩
  obtain ⟨nj, hnj⟩ : ∃ nj : Nat, x.j = nj := ⟨x.j.toNat, by omega⟩
  have HI6 := Lib.hid (show ni < 60 by omega)
  have HJ6 := Lib.hid (show nj < 60 by omega)
  have hni0 : (0 : Int) ≤ ni := by omega
  have hni1 : (ni : Int) < 60 := by omega
  have hnj0 : (0 : Int) ≤ nj := by omega
  have hnj1 : (nj : Int) < 60 := by omega
  have HOC := Lib.hid (show Ok x.c from .inr g5)
  have HC5 := Lib.hid g5
  have hto : x.i.toNat = ni := by omega
  have htj : x.j.toNat = nj := by omega
  rw [hto, htj]
  have HNI := Lib.hid hni
  have HNJ := Lib.hid hnj
  clear hM hd hx g1 g2' g3' g4' g5 hto htj hni hnj
  go_enter Try.func47, Try.ntmps47
  go_upto_region 1 with (
    refine wpList_alloc_seg rfl 41 rfl 3601 zr zeroZ ?_
    intro w1 hb1 hB1 hs1
    have HS0 := one_start w w1 false (rT M) x hb1 hB1
    clear hb1 hB1 hs1
    generalize ((w.alloc (.cells (arr 3601 (zc false (rT M))) 41)).alloc (.cells #[.int .i64 x.i, .int .i64 x.j, .int .i64 x.c] 99)).heap.size = g4 at *
    obtain ⟨g2, hg2⟩ : ∃ g2, g2 = w.heap.size := ⟨_, rfl⟩
    obtain ⟨g3, hg3⟩ : ∃ g3, g3 = w.heap.size + 1 := ⟨_, rfl⟩
    rw [← hg3] at HS0 ⊢
    rw [← hg2] at HS0 ⊢
    have HS := Lib.hid HS0
    have HG3 := Lib.hid hg3
    have HG2 := Lib.hid hg2
    clear hg2 hg3 HS0)
  rw [HNI.out, HNJ.out] at HS
  obtain ⟨c, hc⟩ : ∃ c, c = x.c := ⟨_, rfl⟩
  rw [← hc] at HS HOC HC5
  have HCX := Lib.hid hc
  clear hc
  have y0 := HS.out.z.head
  have yi := HS.out.i_
  have yj := HS.out.j_
  have yc := HS.out.c_
  by_cases hij : ni = nj
  · have t0 : ((ni : Int) == (nj : Int)) = true := by rw [hij]; exact beq_self_eq_true _
    by_cases h0 : 0 ≤ c
    · have t1 : decide (c < 0) = false := decide_eq_false (by omega)
      have HX := Lib.hid (show addZ M ni nj c = some M by unfold addZ; rw [if_pos hij, if_pos h0])
      clear hij h0
      go_wp2_with (first
    | (refine wpList_load_all rfl 41 _ rfl g2 rfl 41 3601 (zc false (rT M)) _ HS.out.z Try.underlying41 rfl sizeZ ?_)
    | (refine wpList_store_all rfl 41 _ _ rfl g4 41 3601 _ (zc false (rT M)) rfl rfl HS.out.r sizeZ (rz_one _ _) ?_; intro w7 h7 hT7 hs7))
      refine bodyPost_ret (result_z rfl _ _ g4 false (rT M) rfl h7) rfl ⟨by rw [← HCX.out, HX.out]; rfl, ?_⟩
      exact HS.out.b.trans (hT7.below HS.out.h4 HS.out.b.size)
    · have t1 : decide (c < 0) = true := decide_eq_true (by omega)
      have HX := Lib.hid (show addZ M ni nj c = none by unfold addZ; rw [if_pos hij, if_neg h0])
      clear hij h0
      go_wp2_with fail
      go_at_call 74
      refine (Nothing_any _).mono ?_
      rintro e w8 ⟨rfl, hB8⟩
      have HS8 := Lib.hid (HS.out.up hB8)
      obtain ⟨T8, hT8⟩ : ∃ T8, T8 = rT topT := ⟨_, rfl⟩
      rw [← hT8]
      have HT8 := Lib.hid hT8
      clear hB8 hT8 y0 yi yj yc
      go_wp2_with (refine wpList_store_all rfl 41 _ _ rfl g4 41 3601 _ (zc true T8) rfl rfl HS8.out.r sizeZ (rz_one _ _) ?_; intro w9 h9 hT9 hs9)
      refine bodyPost_ret (result_z rfl _ _ g4 true T8 rfl h9) rfl ⟨by rw [← HCX.out, HX.out, HT8.out]; rfl, ?_⟩
      exact HS8.out.b.trans (hT9.below HS8.out.h4 HS8.out.b.size)
  · have t0 : ((ni : Int) == (nj : Int)) = false := by rw [beq_eq_false_iff_ne]; omega
    have z1 := HS.out.z.at_ ni nj HI6.out HJ6.out
    have z2 := HS.out.z.at_ nj ni HJ6.out HI6.out
    have ok1 := HM.out ni nj HI6.out HJ6.out
    have ok2 := HM.out nj ni HJ6.out HI6.out
    obtain ⟨v1, hv1⟩ : ∃ v, v = rT M ni nj := ⟨_, rfl⟩
    obtain ⟨v2, hv2⟩ : ∃ v, v = rT M nj ni := ⟨_, rfl⟩
    rw [← hv1] at z1
    rw [← hv2] at z2
    by_cases h1 : M ni nj ≤ c
    · have t1 : decide (v1 ≤ c) = true := decide_eq_true (by rw [hv1]; exact (rN_low ok1 HC5.out.2).mpr h1)
      have HX := Lib.hid (show addZ M ni nj c = some M by unfold addZ; rw [if_neg hij, if_pos h1])
      clear hij h1 hv1 hv2 ok1 ok2 z2
      go_upto_region 7 with (fail)
      go_quiet (fail)
      have HS2 := Lib.hid (HS.out.up (below_drewN' (Below.refl w1.heap.size w1) nq))
      clear y0 yi yj yc z1
      generalize w1.drewN nq = W2 at *
      go_wp2_with (first
    | (refine wpList_load_all rfl 41 _ rfl g2 rfl 41 3601 (zc false (rT M)) _ HS2.out.z Try.underlying41 rfl sizeZ ?_)
    | (refine wpList_store_all rfl 41 _ _ rfl g4 41 3601 _ (zc false (rT M)) rfl rfl HS2.out.r sizeZ (rz_one _ _) ?_; intro w7 h7 hT7 hs7))
      refine bodyPost_ret (result_z rfl _ _ g4 false (rT M) rfl h7) rfl ⟨by rw [← HCX.out, HX.out]; rfl, ?_⟩
      exact HS2.out.b.trans (hT7.below HS2.out.h4 HS2.out.b.size)
    · have t1 : decide (v1 ≤ c) = false := decide_eq_false (by rw [hv1]; exact fun e => h1 ((rN_low ok1 HC5.out.2).mp e))
      have HSU := Lib.hid (fun W => show Calls Try.prog 75 #[.int .i64 v2, .int .i64 c] W (fun e w' => e = .returned (.int .i64 (rN (psum (M nj ni) c))) ∧ W = w') from by
        rw [hv2]
        have hc := HC5.out
        refine (refSum_any _ _ W (by have := rN_rng ok2; exact ⟨by show _ ≤ rN _; omega, this.2⟩) (by omega)).mono fun e w' hh => ⟨?_, hh.2⟩
        rw [hh.1, ← rsum_psum ok2 HOC.out, rN_num hc.2]
        rfl)
      have ok3 : Ok (psum (M nj ni) c) := psum_ok _ _
      obtain ⟨v3, hv3⟩ : ∃ v, v = rN (psum (M nj ni) c) := ⟨_, rfl⟩
      rw [← hv3] at HSU
      by_cases h2 : psum (M nj ni) c < 0
      · have t2 : decide (v3 < 0) = true := decide_eq_true (by rw [hv3]; exact (rN_neg ok3).mpr h2)
        have HX := Lib.hid (show addZ M ni nj c = none by unfold addZ; rw [if_neg hij, if_neg h1, if_pos h2])
        clear hij h1 h2 hv1 hv2 hv3 ok1 ok2 ok3
        go_upto_region 7 with (fail)
        go_quiet (fail)
        obtain ⟨W2, hW2⟩ : ∃ W2, W2 = w1.drewN nq := ⟨_, rfl⟩
        rw [← hW2]
        have HS2 := Lib.hid (show OneAt w W2 g2 g3 g4 false (rT M) ni nj c by rw [hW2]; exact HS.out.up (below_drewN' (Below.refl w1.heap.size w1) nq))
        replace yi : W2.cell? ⟨g3, 0, none⟩ = some (.int .i64 ni) := HS2.out.i_
        replace yj : W2.cell? ⟨g3, 1, none⟩ = some (.int .i64 nj) := HS2.out.j_
        replace yc : W2.cell? ⟨g3, 2, none⟩ = some (.int .i64 c) := HS2.out.c_
        replace z2 : W2.cell? ⟨g2, 1 + nj * 60 + ni, none⟩ = some (.int .i64 v2) := by rw [hW2]; exact z2
        clear hW2 HS y0 z1 t1
        go_wp2_with fail
        go_quiet ((go_at_call 75; exact Calls.quiet_of_same ((HSU.out _).mono fun e w' h => ⟨h.1, h.2.symm⟩)))
        have HS3 := Lib.hid (HS2.out.up (below_drewN' (Below.refl W2.heap.size W2) nq))
        clear yi yj yc z2 HSU HS2
        generalize W2.drewN nq = W3 at *
        go_wp2_with fail
        go_at_call 74
        refine (Nothing_any _).mono ?_
        rintro e w8 ⟨rfl, hB8⟩
        have HS8 := Lib.hid (HS3.out.up hB8)
        obtain ⟨T8, hT8⟩ : ∃ T8, T8 = rT topT := ⟨_, rfl⟩
        rw [← hT8]
        have HT8 := Lib.hid hT8
        clear hB8 hT8 t2
        go_wp2_with (refine wpList_store_all rfl 41 _ _ rfl g4 41 3601 _ (zc true T8) rfl rfl HS8.out.r sizeZ (rz_one _ _) ?_; intro w9 h9 hT9 hs9)
        refine bodyPost_ret (result_z rfl _ _ g4 true T8 rfl h9) rfl ⟨by rw [← HCX.out, HX.out, HT8.out]; rfl, ?_⟩
        exact HS8.out.b.trans (hT9.below HS8.out.h4 HS8.out.b.size)
      · have t2 : decide (v3 < 0) = false := decide_eq_false (by rw [hv3]; exact fun e => h2 ((rN_neg ok3).mp e))
        have HX := Lib.hid (show addZ M ni nj c = if negT (addT M ni nj c) then none else some (addT M ni nj c) by unfold addZ; rw [if_neg hij, if_neg h1, if_neg h2])
        clear hij h1 h2 hv1 hv2 hv3 ok1 ok2 ok3
        go_upto_region 7 with (fail)
        go_quiet (fail)
        obtain ⟨W2, hW2⟩ : ∃ W2, W2 = w1.drewN nq := ⟨_, rfl⟩
        rw [← hW2]
        have HS2 := Lib.hid (show OneAt w W2 g2 g3 g4 false (rT M) ni nj c by rw [hW2]; exact HS.out.up (below_drewN' (Below.refl w1.heap.size w1) nq))
        replace yi : W2.cell? ⟨g3, 0, none⟩ = some (.int .i64 ni) := HS2.out.i_
        replace yj : W2.cell? ⟨g3, 1, none⟩ = some (.int .i64 nj) := HS2.out.j_
        replace yc : W2.cell? ⟨g3, 2, none⟩ = some (.int .i64 c) := HS2.out.c_
        replace z2 : W2.cell? ⟨g2, 1 + nj * 60 + ni, none⟩ = some (.int .i64 v2) := by rw [hW2]; exact z2
        clear hW2 HS y0 z1 t1
        go_wp2_with fail
        go_quiet ((go_at_call 75; exact Calls.quiet_of_same ((HSU.out _).mono fun e w' h => ⟨h.1, h.2.symm⟩)))
        have HS3 := Lib.hid (HS2.out.up (below_drewN' (Below.refl W2.heap.size W2) nq))
        clear yi yj yc z2 HSU HS2
        generalize W2.drewN nq = W3 at *
        go_upto_region 12 with (first
          | (refine wpList_load_all rfl 41 _ rfl g2 rfl 41 3601 (zc false (rT M)) _ HS3.out.z Try.underlying41 rfl sizeZ ?_)
          | (refine wpList_alloc_seg rfl 41 rfl 3601 zr zeroZ ?_
             intro w5 hb5 hB5 hs5
             obtain ⟨g5, hg5⟩ : ∃ g5, g5 = W3.heap.size := ⟨_, rfl⟩
             rw [← hg5] at hb5 ⊢
             have HG5 := Lib.hid (show w.heap.size ≤ g5 by have := HS3.out.b.size; omega)
             have HN25 := Lib.hid (show g2 ≠ g5 by have := HS3.out.z.lt; omega)
             have HN35 := Lib.hid (show g3 ≠ g5 by have := HS3.out.l3; omega)
             have HN45 := Lib.hid (show g4 ≠ g5 by have := HS3.out.r.lt; omega)
             have HS5 := Lib.hid (HS3.out.up hB5)
             clear hg5 hs5 hB5
             refine wpList_store_all rfl 41 _ _ rfl g5 41 3601 _ (zc false (rT M)) rfl rfl hb5 sizeZ (rz_one _ _) ?_
             intro w6 hb6 hT6 hs6
             have HN6 := Lib.hid (show RB w6 g5 false (adK M ni nj c 0 0) from RB.congr (show RB w6 g5 false (rT M) from hb6) fun p q _ _ => by unfold adK; rw [if_neg (by omega)]; rfl)
             have HT6 := Lib.hid hT6
             clear hb5 hb6 hT6 hs6))
        clear t0 t2
        go_wp2_with fail
        go_loopw [6] (fun i wr => ∃ k : Nat, k ≤ 60 ∧ i = .int .i64 k ∧ RB wr g5 false (adK M ni nj c k 0) ∧ (∀ p, p < k → 0 ≤ addT M ni nj c p p) ∧ Touch g5 w5 wr) (fun i _ => (60 - intOf i).toNat)
        case atStart => exact ⟨0, by omega, rfl, HN6.out, fun p hp => absurd hp (by omega), HT6.out⟩
        case round =>
          clear HN6 HT6
          obtain ⟨p, hp, rfl, hR, hng, hT⟩ := hrel
          have hp0 : (0 : Int) ≤ p := by omega
          by_cases hlt : p < 60
          · have hp1 : (p : Int) < 60 := by omega
            have HPT := Lib.hid hlt
            have HSr := Lib.hid (HS5.out.touch hT HN25.out HN35.out HN45.out HG5.out)
            have y0 := HSr.out.i_
            have y1 := HSr.out.c_
            have z0 := HSr.out.z.at_ p ni hlt HI6.out
            have okp := HM.out p ni hlt HI6.out
            have HSU2 := Lib.hid (fun W => show Calls Try.prog 75 #[.int .i64 (rT M p ni), .int .i64 c] W (fun e w' => e = .returned (.int .i64 (rN (psum (M p ni) c))) ∧ W = w') from by
              have hc := HC5.out
              refine (refSum_any _ _ W (by have := rN_rng okp; exact ⟨by show _ ≤ rN _; omega, this.2⟩) (by omega)).mono fun e w' hh => ⟨?_, hh.2⟩
              rw [hh.1, ← rsum_psum okp HOC.out, rN_num hc.2]
              rfl)
            have HRr := Lib.hid hR
            have HTr := Lib.hid hT
            have HNG := Lib.hid hng
            clear hR hT hng hlt okp
            obtain ⟨vp, hvp⟩ : ∃ v, v = rT M p ni := ⟨_, rfl⟩
            obtain ⟨vh, hvh⟩ : ∃ v, v = rN (psum (M p ni) c) := ⟨_, rfl⟩
            rw [← hvp] at z0
            rw [← hvp, ← hvh] at HSU2
            have HVH := Lib.hid hvh
            clear hvp hvh
            go_upto_region 15 with (fail)
            go_quiet ((go_at_call 75; exact Calls.quiet_of_same ((HSU2.out _).mono fun e w' h => ⟨h.1, h.2.symm⟩)))
            obtain ⟨W4, hW4⟩ : ∃ W4, W4 = wr.drewN nq := ⟨_, rfl⟩
            rw [← hW4]
            have HR4 := Lib.hid (show RB W4 g5 false (adK M ni nj c p 0) by rw [hW4]; exact HRr.out)
            have HT4 := Lib.hid (show Touch g5 w5 W4 by rw [hW4]; exact HTr.out.trans (Touch.drewN wr nq))
            clear hW4 HRr HTr HSr y0 y1 z0 HSU2
            by_cases hno : psum (M p ni) c = 3458764513820540928
            · have t1 : decide (2305843009213693952 ≤ vh) = true := decide_eq_true (by rw [HVH.out]; exact (rN_top (psum_ok _ _)).mpr hno)
              have HN := Lib.hid (HR4.out.congr (N := adK M ni nj c (p + 1) 0) fun a b ha hb => adK_skip HM.out HJ6.out HPT.out hno a b ha hb)
              have HNG2 := Lib.hid (show ∀ q, q < p + 1 → 0 ≤ addT M ni nj c q q from fun q hq => by
                by_cases e : q = p
                · rw [e, ad_none HM.out HJ6.out HPT.out hno p HPT.out, HDI.out p HPT.out]; omega
                · exact HNG.out q (by omega))
              clear hno HR4 HNG
              go_wp2_with fail
              go_roundw
              case rel => exact ⟨p + 1, by have := HPT.out; omega, by go_num, HN.out, HNG2.out, HT4.out⟩
              case measure => simp [intOf]; omega
            · have t1 : decide (2305843009213693952 ≤ vh) = false := decide_eq_false (by rw [HVH.out]; exact fun e => hno ((rN_top (psum_ok _ _)).mp e))
              clear hno
              go_upto_region 17 with (fail)
              clear t1
              go_wp2_with fail
              go_loopw [8] (fun i wr => ∃ j : Nat, j ≤ 60 ∧ i = .int .i64 j ∧ RB wr g5 false (adK M ni nj c p j) ∧ Touch g5 w5 wr) (fun i _ => (60 - intOf i).toNat)
              case atStart => exact ⟨0, by omega, rfl, HR4.out, HT4.out⟩
              case round =>
                clear HR4 HT4
                obtain ⟨q, hq, rfl, hR, hT⟩ := hrel
                have hq0 : (0 : Int) ≤ q := by omega
                by_cases hqt : q < 60
                · have hq1 : (q : Int) < 60 := by omega
                  have HQT := Lib.hid hqt
                  have HRr := Lib.hid hR
                  have HTr := Lib.hid hT
                  clear hR hT hqt
                  go_upto_region 20 with (fail)
                  refine wp_region_tail 21 (by kernel_rfl) (by kernel_rfl) fun W hW => ?_
                  simp only [List.take_succ_cons, List.take_zero, List.drop_succ_cons, List.drop_zero]
                  have hR : RB W g5 false (adK M ni nj c p q) := by rw [hW]; exact HRr.out
                  have hT : Touch g5 w5 W := by rw [hW]; exact HTr.out.trans (Touch.drewN wr 1)
                  have hS := HS5.out.touch hT HN25.out HN35.out HN45.out HG5.out
                  have y1 := hS.j_
                  have z0 := hS.z.at_ p q HPT.out HQT.out
                  have z1 := hS.z.at_ nj q HJ6.out HQT.out
                  have z2 := hR.at_ p q HPT.out HQT.out
                  have f2 := FB.frozen hR (1 + p * 60 + q)
                  have o0 := HM.out p q HPT.out HQT.out
                  have o1 := HM.out nj q HJ6.out HQT.out
                  have HSU := Lib.hid (show Calls Try.prog 75 #[.int .i64 vh, .int .i64 (rT M nj q)] W (fun e w' => e = .returned (.int .i64 (rN (psum (psum (M p ni) c) (M nj q)))) ∧ W = w') from
                    (refSum_any _ _ W (by rw [HVH.out]; have := rN_rng (psum_ok (M p ni) c); omega) (by have := rN_rng o1; exact ⟨by show _ ≤ rN _; omega, this.2⟩)).mono fun e w' hh => ⟨by rw [hh.1, HVH.out, ← rsum_psum (psum_ok _ _) o1]; rfl, hh.2⟩)
                  have HLE := Lib.hid (show Calls Try.prog 76 #[.int .i64 (rT M p q), .int .i64 (rN (psum (psum (M p ni) c) (M nj q)))] W (fun e w' => e = .returned (.int .i64 (rN (addT M ni nj c p q))) ∧ W = w') from
                    (lesser_any _ _ W).mono fun e w' hh => ⟨by rw [hh.1]; congr 2; exact rmin o0 (psum_ok _ _), hh.2⟩)
                  have HN := Lib.hid (hR.set (N := adK M ni nj c p (q + 1)) p q (rN (addT M ni nj c p q)) HPT.out HQT.out fun a b _ _ => adK_step a b)
                  have HTn := Lib.hid (hT.trans (Touch.set_ W (1 + p * 60 + q) (.int .i64 (rN (addT M ni nj c p q)))))
                  generalize rN (addT M ni nj c p q) = nv at *
                  generalize rN (psum (psum (M p ni) c) (M nj q)) = sv at *
                  generalize rT M p q = u1 at *
                  generalize rT M nj q = u2 at *
                  generalize adK M ni nj c p q p q = u3 at *
                  have hpt : p < 60 := HPT.out
                  have hqt : q < 60 := HQT.out
                  have hjt : nj < 60 := HJ6.out
                  clear hR hT hS o0 o1 hW HRr HTr
                  iterate 16 still_step
                  still_call (HSU.out.mono fun e w'' h => ⟨h.1, h.2.symm⟩)
                  still_call (HLE.out.mono fun e w'' h => ⟨h.1, h.2.symm⟩)
                  iterate 3 still_step
                  refine wpStill_nil ?_
                  clear HSU HLE y1 z0 z1
                  go_wp2_with fail
                  go_roundw
                  case rel => exact ⟨q + 1, by have := HQT.out; omega, by go_num, HN.out, HTn.out⟩
                  case measure => simp [intOf]; omega
                · have hq60 : q = 60 := by omega
                  have hjn5 : decide ((q : Int) < 60) = false := decide_eq_false (by omega)
                  have hR2 : RB wr g5 false (adK M ni nj c (p + 1) 0) := hR.congr fun a b _ hb => by rw [hq60]; exact adK_row a b hb
                  have z3 := hR2.at_ p p HPT.out HPT.out
                  obtain ⟨vn, hvn⟩ : ∃ v, v = adK M ni nj c (p + 1) 0 p p := ⟨_, rfl⟩
                  rw [← hvn] at z3
                  have hvn2 : vn = rN (addT M ni nj c p p) := by rw [hvn]; unfold adK; rw [if_pos (by omega)]
                  have HRn := Lib.hid hR2
                  have HTn := Lib.hid hT
                  have hoa : Ok (addT M ni nj c p p) := okT_add HM.out ni nj c p p HPT.out HPT.out
                  clear hR hR2 hT hq60 hvn
                  by_cases h0 : addT M ni nj c p p < 0
                  · have t3 : decide (vn < 0) = true := decide_eq_true (by rw [hvn2]; exact (rN_neg hoa).mpr h0)
                    have HXn := Lib.hid (show addZ M ni nj c = none by rw [HX.out, negT_true HPT.out h0]; rfl)
                    clear h0 hvn2 hoa
                    go_wp2_with fail
                    go_at_call 74
                    refine (Nothing_any _).mono ?_
                    rintro e w8 ⟨rfl, hB8⟩
                    have HS8 := Lib.hid ((HS5.out.touch HTn.out HN25.out HN35.out HN45.out HG5.out).up hB8)
                    obtain ⟨T8, hT8⟩ : ∃ T8, T8 = rT topT := ⟨_, rfl⟩
                    rw [← hT8]
                    have HT8 := Lib.hid hT8
                    clear hB8 hT8 t3 z3
                    go_wp2_with (refine wpList_store_all rfl 41 _ _ rfl g4 41 3601 _ (zc true T8) rfl rfl HS8.out.r sizeZ (rz_one _ _) ?_; intro w9 h9 hT9 hs9)
                    refine bodyPost_ret (result_z rfl _ _ g4 true T8 rfl h9) rfl ⟨by rw [← HCX.out, HXn.out, HT8.out]; rfl, ?_⟩
                    exact HS8.out.b.trans (hT9.below HS8.out.h4 HS8.out.b.size)
                  · have t3 : decide (vn < 0) = false := decide_eq_false (by rw [hvn2]; exact fun e => h0 ((rN_neg hoa).mp e))
                    have HNG2 := Lib.hid (show ∀ q, q < p + 1 → 0 ≤ addT M ni nj c q q from fun q hq => by
                      by_cases e : q = p
                      · rw [e]; omega
                      · exact HNG.out q (by omega))
                    clear h0 hvn2 hoa
                    go_wp2_with fail
                    go_roundw
                    case rel => exact ⟨p + 1, by have := HPT.out; omega, by go_num, HRn.out, HNG2.out, HTn.out⟩
                    case measure => simp [intOf]; omega
          · have hjn5 : decide ((p : Int) < 60) = false := decide_eq_false (by omega)
            have HXn := Lib.hid (show addZ M ni nj c = some (addT M ni nj c) by rw [HX.out, negT_false.mpr fun q hq => hng q (by omega)]; rfl)
            have HRn := Lib.hid (show RB wr g5 false (rT (addT M ni nj c)) from hR.congr fun a b ha _ => by unfold adK; rw [if_pos (by omega)]; rfl)
            have HSn := Lib.hid (HS5.out.touch hT HN25.out HN35.out HN45.out HG5.out)
            clear hR hT hng
            obtain ⟨TT, hTT⟩ : ∃ TT, TT = rT (addT M ni nj c) := ⟨_, rfl⟩
            rw [← hTT] at HRn
            have HTT := Lib.hid hTT
            clear hTT
            go_wp2_with (first
              | (refine wpList_load_all rfl 41 _ rfl g5 rfl 41 3601 (zc false TT) _ HRn.out Try.underlying41 rfl sizeZ ?_)
              | (refine wpList_store_all rfl 41 _ _ rfl g4 41 3601 _ (zc false TT) rfl rfl HSn.out.r sizeZ (rz_one _ _) ?_; intro w7 h7 hT7 hs7))
            refine bodyPost_ret (result_z rfl _ _ g4 false TT rfl h7) rfl ⟨by rw [← HCX.out, HXn.out, HTT.out]; rfl, ?_⟩
            exact HSn.out.b.trans (hT7.below HSn.out.h4 HSn.out.b.size)
end Go.Proofs.Ytejcijbohnlbgaa
/- The document's zone: With. -/
namespace Go.Proofs.Ytejcijbohnlbgaa
open Go.ChangeShapes Go.WideShapes Go.ChangeAt Go.RowKit
open Zon
set_option linter.unusedVariables false
set_option maxRecDepth 100000
def DiagZ (z : Zn) : Prop := ∀ M, z = some M → Diag0 M
theorem oneZ_any (w : World) (z : Zn) (x : Con) (hz : OkZ z) (hd : DiagZ z) (hx : wrong1 x = 0) : Calls Try.prog 47 #[rvV (rv z), conV x] w fun e w' => e = .returned (rvV (rv (conZ z x))) ∧ Below w.heap.size w w' := by
  cases z with
  | none => exact oneVoid_any w _ x
  | some M => exact one_any w M x (hz M rfl) (hd M rfl) hx
theorem diagZ_con {z : Zn} (h : DiagZ z) (x : Con) : DiagZ (conZ z x) := fun N hN => by
  cases z with
  | none => cases hN
  | some M => exact addZ_diag (h M rfl) (show addZ M x.i.toNat x.j.toNat x.c = some N from hN)
theorem diagZ_with {z : Zn} (h : DiagZ z) (l : List Con) : DiagZ (withZ z l) := by
  unfold withZ
  induction l generalizing z with
  | nil => exact h
  | cons x l ih => exact ih (diagZ_con h x)
theorem exec_load_z (w : World) (a : Act) (o : Oper) (x : Operand) (ho : o.op = .load 41 x) (g : Nat) (hx : a.eval x = .pointer (some ⟨g, 0, none⟩)) (f : Nat → Value) (hg : FB w g 41 3601 f) :
    (execOp a.eval o).run Try.prog w = .ok (.value (.agg (arr 3601 f))) w := by
  rw [exec_load_seg w a o 41 x ho g 0 hx 41 3601 3601 f _ hg (by omega) Try.underlying41 rfl sizeZ, arr_congr (g := f) (fun k _ => by rw [Nat.zero_add])]
theorem with_start (w w1 : World) (e : Bool) (T : Tab)
    (hb1 : FB w1 (w.alloc (.cells (arr 3601 (zc e T)) 41)).heap.size 41 3601 zr)
    (hB1 : Below (w.alloc (.cells (arr 3601 (zc e T)) 41)).heap.size (w.alloc (.cells (arr 3601 (zc e T)) 41)) w1) :
    RB w1 w.heap.size e T ∧ RB w1 (w.alloc (.cells (arr 3601 (zc e T)) 41)).heap.size false zeroM ∧ Below w.heap.size w w1 ∧ (w.alloc (.cells (arr 3601 (zc e T)) 41)).heap.size = w.heap.size + 1 := by
  have e1 : (w.alloc (.cells (arr 3601 (zc e T)) 41)).heap.size = w.heap.size + 1 := by simp
  exact ⟨FB.below (FB.new w 41 3601 (zc e T)) hB1 (by rw [e1]; omega), FB.congr hb1 zr_zc, (below_box w _).trans (hB1.mono (by rw [e1]; omega)), e1⟩
set_option maxHeartbeats 4000000 in
theorem refWith_any (w : World) (z : Zn) (A : Option Addr) (n c : Nat) (L : List Con) (hz : OkZ z) (hd : DiagZ z) (hL : L.length = n) (hn : n ≤ 4000000000000000000) (h : ConsAt w A L) (h0 : wrongL L = 0) :
    Calls Try.prog 13 #[rvV (rv z), .slice A n c] w fun e w' => e = .returned (rvV (rv (withZ z L))) ∧ Below w.heap.size w w' := by
  have HL := Lib.hid hL
  have HA := Lib.hid h
  have HW := Lib.hid (wrongL_zero h0)
  have HOK := Lib.hid (fun k => okZ_with hz (L.take k))
  have HDZ := Lib.hid (fun k => diagZ_with hd (L.take k))
  have HZ0 := Lib.hid (show withZ z (L.take 0) = z from rfl)
  clear hL h h0 hz hd
  obtain ⟨e0, T0, hrv⟩ : ∃ e T, rv z = (e, T) := ⟨_, _, rfl⟩
  rw [hrv]
  have HRV := Lib.hid hrv
  clear hrv
  go_enter Try.func13, Try.ntmps13
  go_upto_region 1 with (
    refine wpList_alloc_seg rfl 41 rfl 3601 zr zeroZ ?_
    intro w1 hb1 hB1 hs1
    have HS0 := with_start w w1 e0 T0 hb1 hB1
    clear hb1 hB1 hs1
    generalize (w.alloc (.cells (arr 3601 (zc e0 T0)) 41)).heap.size = g4 at *
    obtain ⟨g2, hg2⟩ : ∃ g2, g2 = w.heap.size := ⟨_, rfl⟩
    obtain ⟨q1, q2, q3, q4⟩ := HS0
    rw [← hg2] at q1 q4 ⊢
    have HR2 := Lib.hid q1
    have HR4 := Lib.hid q2
    have HBl := Lib.hid q3
    have HG2 := Lib.hid (show w.heap.size ≤ g2 by omega)
    have HG4 := Lib.hid (show w.heap.size ≤ g4 by omega)
    have HNE := Lib.hid (show g4 ≠ g2 by omega)
    clear q1 q2 q3 q4 hg2)
  go_wp2_with fail
  go_loopw [5] (fun i wr => ∃ k : Nat, k ≤ n ∧ i = .int .i64 k ∧ RB wr g2 (rv (withZ z (L.take k))).1 (rv (withZ z (L.take k))).2 ∧ RB wr g4 false zeroM ∧ Below w.heap.size w wr) (fun i _ => (n - intOf i).toNat)
  case atStart => exact ⟨0, by omega, rfl, by rw [HZ0.out, HRV.out]; exact HR2.out, HR4.out, HBl.out⟩
  case round =>
    clear HR2 HR4 HBl
    obtain ⟨k, hk, rfl, hR, hr, hB⟩ := hrel
    have hk0 : (0 : Int) ≤ k := by omega
    by_cases hlt : k < n
    · have hlt' : (k : Int) < n := by omega
      obtain ⟨b, off, rfl, hbl, -⟩ := HA.out (by have := HL.out; omega)
      have HRr := Lib.hid hR
      have HR4 := Lib.hid hr
      have HBr := Lib.hid hB
      have HKT := Lib.hid hlt
      clear hR hr hB hbl
      go_upto_region 4 with (fail)
      refine wp_region_tail 5 (by kernel_rfl) (by kernel_rfl) fun W hW => ?_
      simp only [List.take_succ_cons, List.take_zero, List.drop_succ_cons, List.drop_zero]
      have hB : Below w.heap.size w W := by rw [hW]; exact below_drewN' HBr.out 1
      obtain ⟨x, hx, -, x0, x1, x2⟩ := (HA.out.below hB).get (k := k) (by have := HL.out; have := HKT.out; omega)
      have HX0 := Lib.hid (HW.out x (List.mem_of_getElem? hx))
      have HST := Lib.hid (show withZ z (L.take (k + 1)) = conZ (withZ z (L.take k)) x by rw [take_next L k x hx, withZ_snoc])
      have HON := Lib.hid (oneZ_any W (withZ z (L.take k)) x (HOK.out k) (HDZ.out k) HX0.out)
      have HRW := Lib.hid (show RB W g2 (rv (withZ z (L.take k))).1 (rv (withZ z (L.take k))).2 by rw [hW]; exact HRr.out)
      have HRW4 := Lib.hid (show RB W g4 false zeroM by rw [hW]; exact HR4.out)
      have HBW := Lib.hid hB
      clear hW hB hx HRr HR4 HBr
      obtain ⟨zk, hzk⟩ : ∃ zk, zk = rv (withZ z (L.take k)) := ⟨_, rfl⟩
      rw [← hzk] at HRW HON
      clear hzk
      refine wpStill_yield rfl _ (exec_load_z W _ _ _ rfl g2 rfl (zc zk.1 zk.2) HRW.out) ?_
      iterate 3 still_step
      still_step
      refine wpStill_nil ?_
      clear x0 x1 x2
      go_wp2_with fail
      go_at_call 47
      refine HON.out.mono ?_
      rintro e w5 ⟨rfl, hB5⟩
      rw [← HST.out]
      have HR5 := Lib.hid (HRW.out.up hB5)
      have HR45 := Lib.hid (HRW4.out.up hB5)
      have HB5 := Lib.hid (HBW.out.trans (hB5.mono HBW.out.size))
      obtain ⟨zn, hzn⟩ : ∃ zn, zn = rv (withZ z (L.take (k + 1))) := ⟨_, rfl⟩
      rw [← hzn]
      have HZN := Lib.hid hzn
      clear hzn hB5 HON HRW HRW4 HBW
      go_wp2_with (refine wpList_store_all rfl 41 _ _ rfl g2 41 3601 _ (zc zn.1 zn.2) rfl rfl HR5.out sizeZ (rz_one _ _) ?_; intro w6 h6 hT6 hs6)
      go_roundw
      case rel => exact ⟨k + 1, by have := HKT.out; omega, by go_num, by rw [← HZN.out]; exact h6, HR45.out.touch hT6 HNE.out, HB5.out.trans (hT6.below HG2.out HB5.out.size)⟩
      case measure => simp [intOf]; omega
    · have hjn : decide ((k : Int) < n) = false := decide_eq_false (by omega)
      have hjn3 : decide (k < n) = false := decide_eq_false (by omega)
      rw [List.take_of_length_le (by rw [HL.out]; omega)] at hR
      obtain ⟨zn, hzn⟩ : ∃ zn, zn = rv (withZ z L) := ⟨_, rfl⟩
      rw [← hzn] at hR
      have HRn := Lib.hid hR
      have HR4n := Lib.hid hr
      have HBn := Lib.hid hB
      have HZN := Lib.hid hzn
      clear hR hr hB hlt hzn
      go_wp2_with (first
        | (refine wpList_load_all rfl 41 _ rfl g2 rfl 41 3601 (zc zn.1 zn.2) _ HRn.out Try.underlying41 rfl sizeZ ?_)
        | (refine wpList_store_all rfl 41 _ _ rfl g4 41 3601 _ (zc zn.1 zn.2) rfl rfl HR4n.out sizeZ (rz_one _ _) ?_; intro w7 h7 hT7 hs7))
      refine bodyPost_ret (result_z rfl _ _ g4 zn.1 zn.2 rfl h7) rfl ⟨by rw [HZN.out], ?_⟩
      exact HBn.out.trans (hT7.below HG4.out HBn.out.size)
end Go.Proofs.Ytejcijbohnlbgaa
/- The laws' left and is. Written by mkzku.py. -/
namespace Go.Proofs.Ytejcijbohnlbgaa
open Go.ChangeShapes Go.WideShapes Go.ChangeAt Go.RowKit
open Zon
set_option linter.unusedVariables false
set_option maxRecDepth 100000
set_option linter.unusedSimpArgs false
theorem consZ_len (z : Zn) : (consZ z).length ≤ 3600 := by
  cases z with
  | none => exact Nat.zero_le _
  | some M => exact consN_len M 60
theorem roomL_mark (L : List Con) (k i : Nat) (h1 : L.length ≤ i) (h2 : i < L.length + k) : (roomL L k)[i]? = some ⟨-7, -8, 9⟩ := by
  unfold roomL
  rw [List.getElem?_append_right h1, List.getElem?_replicate, if_pos (by omega)]
  rfl
theorem roomL_take (L : List Con) (k : Nat) : (roomL L k).take L.length = L := by unfold roomL; simp
theorem consAt_tk {w : World} {A : Option Addr} {k : Nat} {L : List Con} (h : ConsAt w A L) : ConsAt w A (L.take k) := fun hp => by
  rw [List.length_take] at hp
  obtain ⟨b, off, rfl, hl, hcell⟩ := h (by omega)
  refine ⟨b, off, rfl, hl, fun j x hx => ?_⟩
  rw [List.getElem?_take] at hx
  split at hx
  · exact hcell j x hx
  · cases hx
set_option maxHeartbeats 2000000 in
theorem left_any (w : World) (A A0 : Option Addr) (n c c0 : Nat) (L : List Con) (hL : L.length = n) (hn : n ≤ 6000000000000) (hc : n + 70 ≤ c) (h : ConsAt w A (roomL L 70)) (h0 : ConsAt w A0 L) :
    Calls Try.prog 11 #[.slice A (n + 70) c, .slice A0 n c0] w (True_ w) := by
  have HL := Lib.hid hL
  have HA := Lib.hid h
  have HA0 := Lib.hid h0
  have HNE := Lib.hid (show ∀ w, (binOp .neq 45 (.agg #[.int .i64 (-7), .int .i64 (-8), .int .i64 9]) (.agg #[.int .i64 (-7), .int .i64 (-8), .int .i64 9])).run Try.prog w = .ok (.bool false) w from fun _ => by kernel_rfl)
  clear hL h h0
  go_enter Try.func11, Try.ntmps11
  go_wp2_with fail
  go_loopw [5] (fun i wr => ∃ k : Nat, n ≤ k ∧ k ≤ n + 70 ∧ i = .int .i64 k ∧ Below w.heap.size w wr) (fun i _ => (n + 70 - intOf i).toNat)
  case atStart => exact ⟨n, Nat.le_refl _, by omega, rfl, Below.refl _ _⟩
  case round =>
    obtain ⟨k, hk1, hk2, rfl, hB⟩ := hrel
    have hk0 : (0 : Int) ≤ k := by omega
    by_cases hlt : k < n + 70
    · have hlt' : (k : Int) < n + 70 := by omega
      have hlt2 : (k : Int) < ((n + 70 : Nat) : Int) := by omega
      have hkc : (k : Int) < c := by omega
      have hR := (HA.out.below hB)
      obtain ⟨b, off, rfl, hbl, -⟩ := HA.out (by rw [roomL_len]; omega)
      obtain ⟨x, hx, -, x0, x1, x2⟩ := hR.get (k := k) (by rw [roomL_len, HL.out]; exact hlt)
      rw [roomL_mark L 70 k (by rw [HL.out]; exact hk1) (by rw [HL.out]; exact hlt)] at hx
      injection hx with hx
      subst hx
      simp only at x0 x1 x2
      have hne := HNE.out
      have HB := Lib.hid hB
      clear hR hB hbl
      go_wp2_with fail
      go_roundw
      case rel => exact ⟨k + 1, by omega, by omega, by go_num, HB.out⟩
      case measure => simp [intOf]; omega
    · obtain rfl : k = n + 70 := by omega
      have hjn : decide (((n + 70 : Nat) : Int) < ((n + 70 : Nat) : Int)) = false := decide_eq_false (by omega)
      have hn0 : (0 : Int) ≤ n := by omega
      have hnc : (n : Int) ≤ c := by omega
      have HS := Lib.hid (same_yes w A A0 n c c0 L HL.out (by omega) (by have := consAt_tk (k := n) HA.out; rw [← HL.out, roomL_take] at this; exact this) HA0.out)
      have HB := Lib.hid hB
      have HS2 := Lib.hid (fun W (hW : Below w.heap.size w W) => same_yes W A A0 n c c0 L HL.out (by omega) (by have := consAt_tk (k := n) (HA.out.below hW); rw [← HL.out, roomL_take] at this; exact this) (HA0.out.below hW))
      clear hB
      go_wp2_with fail
      go_at_call 24
      refine (HS2.out _ HB.out).mono ?_
      rintro e w' ⟨rfl, hB'⟩
      have HB' := Lib.hid (HB.out.trans (hB'.mono HB.out.size))
      clear hB'
      go_wp2_with fail
      go_ret
      exact ⟨rfl, HB'.out⟩
theorem rv_val (z : Zn) : ∃ f : Nat → Value, rvV (rv z) = .agg (arr 3601 f) ∧ f 0 = .bool (voidB z) := by
  cases z with
  | none => exact ⟨_, rfl, rfl⟩
  | some M => exact ⟨_, rfl, rfl⟩
set_option maxHeartbeats 4000000 in
theorem is_any (w : World) (g : Nat) (z : Zn) (hz : ZoneAt w g z) : Calls Try.prog 25 #[.pointer (some ⟨g, 0, none⟩), rvV (rv z)] w (True_ w) := by
  obtain ⟨f, hf, h0⟩ := rv_val z
  have HRC := Lib.hid (fun W => refCons_any W z hz.ok)
  generalize rvV (rv z) = V at *
  have HV := Lib.hid hf
  have HV0 := Lib.hid h0
  have HZ := Lib.hid hz
  clear hf h0 hz
  go_enter Try.func25, Try.ntmps25
  go_upto_region 1 with (refine wpList_box_seg rfl 41 (.tmp 1) rfl 3601 f HV.out ?_; intro w1 hF1 hB1 hs1)
  have HF1 := Lib.hid (show FB w1.drew w.heap.size 41 3601 f from hF1)
  have HZ1 := Lib.hid (show ZoneAt w1.drew g z from HZ.out.up (below_drewN' hB1 1))
  have HB1 := Lib.hid (show Below w.heap.size w w1.drew from below_drewN' hB1 1)
  clear HZ hF1 hB1 hs1
  obtain ⟨gb, hgb⟩ : ∃ gb, gb = w.heap.size := ⟨_, rfl⟩
  rw [← hgb] at HF1 ⊢
  clear hgb
  refine wp_region_held_drew (S := fun W => FB W gb 41 3601 f) (by kernel_rfl) HF1.out (fun hHeld => ?_)
  refine wpAnyH_take (i := 0) (oi := _) (v := .pointer (some ⟨g, 0, none⟩)) rfl (by kernel_rfl) (by kernel_rfl) (by kernel_rfl) (fun _ _ _ h => h) (Or.inl ⟨by rfl, ?_⟩) (by assumption) ?_
  · intro w hSw
    go_simp
  try simp only [Act.put, List.setIfInBounds_toArray, List.set_cons_zero, List.set_cons_succ]
  refine wpAnyH_take (i := 1) (oi := _) (v := .bool true) rfl (by kernel_rfl) (by kernel_rfl) (by kernel_rfl) (fun _ _ _ h => h) (Or.inl ⟨by rfl, ?_⟩) (by assumption) ?_
  · intro w hSw
    go_simp
  try simp only [Act.put, List.setIfInBounds_toArray, List.set_cons_zero, List.set_cons_succ]
  refine wpAnyH_take (i := 2) (oi := _) (v := .bool true) rfl (by kernel_rfl) (by kernel_rfl) (by kernel_rfl) (fun _ _ _ h => h) (Or.inl ⟨by rfl, ?_⟩) (by assumption) ?_
  · intro w hSw
    go_simp
  try simp only [Act.put, List.setIfInBounds_toArray, List.set_cons_zero, List.set_cons_succ]
  refine wpAnyH_take (i := 3) (oi := _) (v := .pointer (some ⟨g, 0, none⟩)) rfl (by kernel_rfl) (by kernel_rfl) (by kernel_rfl) (fun _ _ _ h => h) (Or.inl ⟨by rfl, ?_⟩) (by assumption) ?_
  · intro w hSw
    go_simp
  try simp only [Act.put, List.setIfInBounds_toArray, List.set_cons_zero, List.set_cons_succ]
  refine wpAnyH_take (i := 5) (oi := _) (v := .pointer (some ⟨gb, 0, none⟩)) rfl (by kernel_rfl) (by kernel_rfl) (by kernel_rfl) (fun _ _ _ h => h) (Or.inl ⟨by rfl, ?_⟩) (by assumption) ?_
  · intro w hSw
    go_simp
  try simp only [Act.put, List.setIfInBounds_toArray, List.set_cons_zero, List.set_cons_succ]
  refine wpAnyH_take (i := 6) (oi := _) (v := .bool (voidB z)) rfl (by kernel_rfl) (by kernel_rfl) (by kernel_rfl) (fun _ _ _ h => h) (Or.inl ⟨by rfl, ?_⟩) (by assumption) ?_
  · intro w hSw
    have c := FB.cell hSw 0 (by decide)
    rw [HV0.out] at c
    go_simp
  try simp only [Act.put, List.setIfInBounds_toArray, List.set_cons_zero, List.set_cons_succ]
  clear hHeld
  refine wpAnyH_ready (rs := [4]) (by kernel_rfl) (by simp) ?_
  refine AllReadyH.cons rfl (fun K hK => ?_) AllReadyH.nil
  go_simp
  go_at_call 62
  refine (Empty_any _ g z HZ1.out).mono ?_
  rintro e y1 ⟨rfl, rfl⟩
  refine hK.out _ _ HF1.out (fun hHeld => ?_)
  clear hK K
  try simp only [Act.put, List.setIfInBounds_toArray, List.set_cons_zero, List.set_cons_succ]
  refine wpAnyH_take (i := 7) (oi := _) (v := .bool true) rfl (by kernel_rfl) (by kernel_rfl) (by kernel_rfl) (fun _ _ _ h => h) (Or.inl ⟨by rfl, ?_⟩) (by assumption) ?_
  · intro w hSw
    cases hvb : voidB z <;> go_simp
  try simp only [Act.put, List.setIfInBounds_toArray, List.set_cons_zero, List.set_cons_succ]
  refine wpAnyH_take (i := 8) (oi := _) (v := .bool true) rfl (by kernel_rfl) (by kernel_rfl) (by kernel_rfl) (fun _ _ _ h => h) (Or.inl ⟨by rfl, ?_⟩) (by assumption) ?_
  · intro w hSw
    go_simp
  try simp only [Act.put, List.setIfInBounds_toArray, List.set_cons_zero, List.set_cons_succ]
  refine wpAnyH_take (i := 9) (oi := _) (v := .bool true) rfl (by kernel_rfl) (by kernel_rfl) (by kernel_rfl) (fun _ _ _ h => h) (Or.inl ⟨by rfl, ?_⟩) (by assumption) ?_
  · intro w hSw
    go_simp
  try simp only [Act.put, List.setIfInBounds_toArray, List.set_cons_zero, List.set_cons_succ]
  refine wpAnyH_take (i := 10) (oi := _) (v := .pointer (some ⟨g, 0, none⟩)) rfl (by kernel_rfl) (by kernel_rfl) (by kernel_rfl) (fun _ _ _ h => h) (Or.inl ⟨by rfl, ?_⟩) (by assumption) ?_
  · intro w hSw
    go_simp
  try simp only [Act.put, List.setIfInBounds_toArray, List.set_cons_zero, List.set_cons_succ]
  refine wpAnyH_take (i := 12) (oi := _) (v := V) rfl (by kernel_rfl) (by kernel_rfl) (by kernel_rfl) (fun _ _ _ h => h) (Or.inl ⟨by rfl, ?_⟩) (by assumption) ?_
  · intro w hSw
    rw [HV.out]
    exact exec_load_z _ _ _ (.tmp 3) rfl gb rfl f hSw
  try simp only [Act.put, List.setIfInBounds_toArray, List.set_cons_zero, List.set_cons_succ]
  clear hHeld
  refine wpAnyH_ready (rs := [11]) (by kernel_rfl) (by simp) ?_
  refine AllReadyH.cons rfl (fun K hK => ?_) AllReadyH.nil
  go_simp
  go_at_call 22
  refine (Cons_law _ g z HZ1.out).mono ?_
  rintro e y2 ⟨A2, n2, c2, rfl, hL2, hc2, hA2, hB2⟩
  have HF2 := Lib.hid (FB.up (w := w1.drew) HF1.out hB2)
  have HA2 := Lib.hid hA2
  have HL2 := Lib.hid hL2
  have HB2 := Lib.hid (HB1.out.trans (hB2.mono HB1.out.size))
  clear hA2 hL2 hc2 hB2
  refine hK.out _ _ HF2.out (fun hHeld => ?_)
  clear hK K
  try simp only [Act.put, List.setIfInBounds_toArray, List.set_cons_zero, List.set_cons_succ]
  clear hHeld
  refine wpAnyH_ready (rs := [13]) (by kernel_rfl) (by simp) ?_
  refine AllReadyH.cons rfl (fun K hK => ?_) AllReadyH.nil
  go_simp
  go_at_call 23
  refine (HRC.out _).mono ?_
  intro e y3 hOw
  obtain ⟨A3, n3, c3, rfl, hL3, hc3, hA3, hB3⟩ := Owned.listed hOw
  have HF3 := Lib.hid (HF2.out.up hB3)
  have HA3 := Lib.hid hA3
  have HA23 := Lib.hid (HA2.out.below hB3)
  have hn23 : n3 = n2 := by rw [← HL2.out, ← hL3]
  have HB3 := Lib.hid (HB2.out.trans (hB3.mono HB2.out.size))
  clear hOw hL3 hc3 hA3 hB3
  subst hn23
  refine hK.out _ _ HF3.out (fun hHeld => ?_)
  clear hK K
  try simp only [Act.put, List.setIfInBounds_toArray, List.set_cons_zero, List.set_cons_succ]
  clear hHeld
  refine wpAnyH_ready (rs := [14]) (by kernel_rfl) (by simp) ?_
  refine AllReadyH.cons rfl (fun K hK => ?_) AllReadyH.nil
  go_simp
  go_at_call 24
  refine (same_yes _ A2 A3 n3 c2 c3 (consZ z) HL2.out (by have := HL2.out; have : (consZ z).length ≤ 3600 := consZ_len z; omega) HA23.out HA3.out).mono ?_
  rintro e y4 ⟨rfl, hB4⟩
  have HF4 := Lib.hid (HF3.out.up hB4)
  have HB4 := Lib.hid (HB3.out.trans (hB4.mono HB3.out.size))
  clear hB4
  refine hK.out _ _ HF4.out (fun hHeld => ?_)
  clear hK K
  try simp only [Act.put, List.setIfInBounds_toArray, List.set_cons_zero, List.set_cons_succ]
  refine wpAnyH_take (i := 15) (oi := { dst := some 20, op := Op.pick (Operand.tmp 14) (Operand.tmp 19) (Operand.const (Value.bool false)), type := 4, pos := "law.go:44", after := #[{ on := 9, ground := Ground.data }, { on := 14, ground := Ground.data }], guard := none }) (v := .bool true) rfl (by kernel_rfl) (by kernel_rfl) (by kernel_rfl) (fun _ _ _ h => h) (Or.inl ⟨by rfl, ?_⟩) (by assumption) ?_
  · intro w hSw
    go_simp
  try simp only [Act.put, List.setIfInBounds_toArray, List.set_cons_zero, List.set_cons_succ]
  refine wpAnyH_take (i := 16) (oi := { dst := some 4, op := Op.assign (Operand.tmp 20), type := 4, pos := "law.go:44", after := #[{ on := 15, ground := Ground.data }, { on := 14, ground := Ground.chain }, { on := 0, ground := Ground.phase }, { on := 1, ground := Ground.phase }, { on := 2, ground := Ground.phase }, { on := 3, ground := Ground.phase }, { on := 4, ground := Ground.phase }, { on := 5, ground := Ground.phase }, { on := 6, ground := Ground.phase }, { on := 7, ground := Ground.phase }, { on := 8, ground := Ground.phase }, { on := 9, ground := Ground.phase }, { on := 10, ground := Ground.phase }, { on := 11, ground := Ground.phase }, { on := 12, ground := Ground.phase }, { on := 13, ground := Ground.phase }, { on := 14, ground := Ground.phase }, { on := 15, ground := Ground.phase }], guard := none }) (v := .bool true) rfl (by kernel_rfl) (by kernel_rfl) (by kernel_rfl) (fun _ _ _ h => h) (Or.inl ⟨by rfl, ?_⟩) (by assumption) ?_
  · intro w hSw
    go_simp
  try simp only [Act.put, List.setIfInBounds_toArray, List.set_cons_zero, List.set_cons_succ]
  refine wpAnyH_done (by kernel_rfl) ?_ _
  clear hHeld
  go_wp2_with fail
  go_ret
  exact ⟨rfl, HB4.out⟩
end Go.Proofs.Ytejcijbohnlbgaa
/- A list of bounds of the law's own that it writes over and makes longer; the law's call with bounds on its lists' lengths. -/
namespace Go.Proofs.Ytejcijbohnlbgaa
open Go.ChangeShapes Go.WideShapes Go.ChangeAt Go.RowKit Go.Deep
open Zon
set_option linter.unusedVariables false
set_option linter.unusedSimpArgs false
set_option maxRecDepth 100000
theorem three_arr (p q r : Value) : (#[p, q, r] : Array Value) = arr 3 (fun k => if k = 0 then p else if k = 1 then q else r) := rfl
theorem sizeCn : (Try.prog.info? 45).map (·.size) = some 3 := by kernel_rfl
/-- a list of n bounds, whatever they are, in a block from lo on -/
def AO (w : World) (lo : Nat) (v : Value) (n : Nat) : Prop := ∃ xs, w.ownsRow lo 45 3 v n xs
theorem AO.form {w : World} {lo n : Nat} {v : Value} (h : AO w lo v n) : ∃ A c, v = .slice A n c ∧ n ≤ c := by
  obtain ⟨xs, _, h⟩ := h
  rcases h with ⟨hv, hn⟩ | ⟨g, cap, cur, hv, _, _, h1, _⟩
  · exact ⟨none, 0, by rw [hv, hn], by omega⟩
  · exact ⟨_, cap, hv, h1⟩
theorem OwnC.ao {w : World} {lo : Nat} {v : Value} {L : List Con} (h : OwnC 45 w lo v L) : AO w lo v L.length := ⟨_, h⟩
/-- its block as cells -/
theorem AO.fb {w : World} {lo n c : Nat} {A : Option Addr} (h : AO w lo (.slice A n c) n) (hp : 0 < n) : ∃ b f, A = some ⟨b, 0, none⟩ ∧ lo ≤ b ∧ n ≤ c ∧ c ≤ maxLen ∧ FB w b 45 (c * 3) f := by
  obtain ⟨xs, _, h⟩ := h
  rcases h with ⟨hv, hn⟩ | ⟨g, cap, cur, hv, hg, hh, h1, h2, h3, _⟩
  · omega
  · injection hv with e1 e2 e3
    subst e1; subst e3
    refine ⟨g, fun k => cur.getD k (.bool false), rfl, hg, h1, h2, ?_⟩
    unfold FB Blk
    rw [← arr_of cur (c * 3) _ h3 fun k hk => by rw [Array.getElem?_eq_getElem (by omega)]; simp [Array.getD, h3, hk]]
    exact hh
theorem AO.of_fb {w : World} {lo n c b : Nat} {f : Nat → Value} (h : FB w b 45 (c * 3) f) (hb : lo ≤ b) (hn : n ≤ c) (hc : c ≤ maxLen) : AO w lo (.slice (some ⟨b, 0, none⟩) n c) n :=
  ⟨(arr (c * 3) f).toList.take (n * 3), by rw [List.length_take, Array.length_toList, arr_size]; have := Nat.mul_le_mul_right 3 hn; omega, .inr ⟨b, c, _, rfl, hb, h, hn, hc, arr_size _ _, rfl⟩⟩
theorem AO.touch {w w' : World} {lo n x : Nat} {v : Value} (h : AO w lo v n) (ht : Touch x w w') (hx : ∀ b, v.ownBlock = some b → b ≠ x) : AO w' lo v n := by
  obtain ⟨xs, h0, h⟩ := h
  refine ⟨xs, h0, ?_⟩
  rcases h with h1 | ⟨g, cap, cur, rfl, hg, hh, h1⟩
  · exact .inl h1
  · refine .inr ⟨g, cap, cur, rfl, hg, (ht.block g ?_ (hx g rfl)).trans hh, h1⟩
    rcases Nat.lt_or_ge g w.heap.size with h2 | h2
    · exact h2
    · rw [Array.getElem?_eq_none h2] at hh; cases hh
/-- one more: in its block, or in a new one; x: the block that it had at first, B: the memory's size then -/
def Mine (x B : Nat) (v : Value) : Prop := ∀ b, v.ownBlock = some b → b = x ∨ B ≤ b
theorem append_ao {w W0 : World} {ops : Array Oper} {rest : List Oper} {o : Oper} {a : Act} {Q : Exit → Act → World → Prop} (hgd : Region.wanted o (yielded ops a.tmps) = true) (s x : Operand)
    (ho : o.op = .call { callee := .builtin .append, args := #[s, x], argTypes := #[28, 28] })
    (lo b : Nat) (v : Value) (n : Nat) (hs : a.eval s = v) (hown : AO w lo v n) (hm : Mine b W0.heap.size v) (ht : Touch b W0 w)
    (A : Option Addr) (c : Nat) (y : Con) (hx : a.eval x = .slice A 1 c) (hr : ConsAt w A [y]) (hlen : n ≤ 5000) (hbase : lo ≤ w.heap.size)
    (h : ∀ v' w', AO w' lo v' (n + 1) → Mine b W0.heap.size v' → Touch b W0 w' → wpList Try.prog ops Q rest (a.put o.dst v') w') : wpList Try.prog ops Q (o :: rest) a w := by
  obtain ⟨xs, hxs⟩ := hown
  obtain ⟨i0, hi, hz0, hz1, hz2⟩ := info_parts con_info
  obtain ⟨hl, hR⟩ := hr.reads
  obtain ⟨ad, rfl, hb, hc⟩ := hR (by show 0 < 1; omega)
  obtain ⟨v', w', hrun, h2, h3, _, h5⟩ := run_append_own_at (P := Try.prog) w lo 28 o.type 45 i0 _ 3 24 Try.underlying28 hi hz0 hz1 hz2 rfl (by decide) v n xs hxs ad 1 c ([y].flatMap Con.cells) rfl hc
    (fun u hu => by
      simp only [List.mem_flatMap, Con.cells, List.mem_cons, List.not_mem_nil, or_false] at hu
      obtain ⟨z, _, hz⟩ := hu
      rcases hz with rfl | rfl | rfl <;> rfl) (by unfold maxLen; omega) (by omega) hbase
  refine wpList_on hgd fun _ hK => ?_
  unfold Oper.wp execOp
  simp only [ho, resolve, invoke, builtin, Sem.run_bind, Sem.run_pure, Result.andThen_ok, List.map_toArray, List.map_cons, List.map_nil, hs, hx, hrun]
  refine hK _ _ (h v' w' ⟨_, h2⟩ (fun k hk => ?_) ?_)
  · rcases h5 with h5 | h5
    · exact hm k (h5 ▸ hk)
    · rw [h5] at hk
      injection hk with hk
      exact .inr (hk ▸ ht.size)
  · refine ⟨h3.os.trans ht.os, h3.tape.trans ht.tape, h3.output.trans ht.output, Nat.le_trans ht.size h3.size, fun k hk hne => (h3.block k (Nat.lt_of_lt_of_le hk ht.size) fun e => ?_).trans (ht.block k hk hne)⟩
    rcases hm k e.symm with e2 | e2
    · exact hne e2
    · omega
theorem ZoneAt.touch {w w' : World} {g k : Nat} {z : Zn} (h : ZoneAt w g z) (ht : Touch k w w') (hne : g ≠ k) : ZoneAt w' g z := by
  cases z with
  | none => exact ZB.touch h ht hne
  | some M => exact ⟨ZB.touch h.1 ht hne, h.2⟩
theorem bytesB : Try.prog.bytesOf 119 = 16 := by kernel_rfl
section
variable {H : Type} {enc : TypeId × Value → H}
theorem bs_data {W : World} {fuel : Nat} {cs : List Value} {x : DataW H × List MemPlace} (hf : DataW.trod enc Try.prog W 0 (fun _ => true) true fuel 24 cs = some x) :
    ∃ (A : Option Addr) (n c : Nat), cs = [.slice A n c] ∧ ((x.1 = .nil ∧ n = 0) ∨ ∃ us ys : List (DataW H), us.length = n ∧ x.1 = .slice us ys) := by
  rcases open_slice Try.underlying24 hf with ⟨hcs, hx⟩ | ⟨a, len', cap', m, n, D, Pl, hcs, _, hl, hm, hmm, hx, hel⟩
  · exact ⟨none, 0, 0, hcs, .inl ⟨by rw [hx], rfl⟩⟩
  · exact ⟨some a, len', cap', hcs, .inr ⟨(List.range len').map D, (List.range (m - len')).map fun j => D (len' + j), by simp, by rw [hx]⟩⟩
theorem open_op3 {W : World} {base : Nat} {v1 : Value} {d1 : DataW H} {p1 : List MemPlace} (hval : Value.okWide Try.prog W .any base 26 v1) (h1 : DataW.Trod enc Try.prog W 0 (fun _ => true) true 26 v1 d1 p1) :
    ∃ (k0 k1 k2 X Y C : Int) (A6 A7 A8 A9 : Option Addr) (n6 c6 n7 c7 n8 c8 n9 c9 : Nat) (L8 L9 : List (Bool × Int)),
      v1 = .agg #[.int .i64 k0, .int .i64 k1, .int .i64 k2, .int .i64 X, .int .i64 Y, .int .i64 C, .slice A6 n6 c6, .slice A7 n7 c7, .slice A8 n8 c8, .slice A9 n9 c9] ∧ I64 X ∧
      (L8.length = n8 ∧ (∀ i ∈ L8, I64 i.2) ∧ BsAt W A8 L8) ∧ (L9.length = n9 ∧ (∀ i ∈ L9, I64 i.2) ∧ BsAt W A9 L9) ∧ ((∀ m ∈ d1.weights Try.prog 26, m ≤ reachBytes) → n8 ≤ 8796093022208 ∧ n9 ≤ 8796093022208) := by
  obtain ⟨cs, rfl, hsz⟩ := okWide_struct Try.underlying26 hval
  obtain ⟨fuel, h⟩ := h1
  have c10 : Try.prog.cellsOf 26 = 10 := by kernel_rfl
  rw [c10] at hsz
  obtain ⟨xs, k, hk, hxy, _, hxl, hf⟩ := DataW.trod_struct Try.underlying26 h
  have c3 : Try.prog.cellsOf 3 = 1 := by kernel_rfl
  have s1 : Try.prog.cellsOf 23 = 1 := by kernel_rfl
  have s2 : Try.prog.cellsOf 22 = 1 := by kernel_rfl
  have s3 : Try.prog.cellsOf 24 = 1 := by kernel_rfl
  obtain ⟨l, rfl⟩ : ∃ l : List Value, cs = l.toArray := ⟨cs.toList, by simp⟩
  have hl : l.length = 10 := by simpa using hsz
  match xs, hxl, l, hl with
  | [y0, y1, y2, y3, y4, y5, y6, y7, y8, y9], _, [v0, v1, v2, v3, v4, v5, v6, v7, v8, v9], _ =>
    have g0 := hf 0 _ rfl
    have g1 := hf 1 _ rfl
    have g2 := hf 2 _ rfl
    have g3 := hf 3 _ rfl
    have g4 := hf 4 _ rfl
    have g5 := hf 5 _ rfl
    have g6 := hf 6 _ rfl
    have g7 := hf 7 _ rfl
    have g8 := hf 8 _ rfl
    have g9 := hf 9 _ rfl
    simp [c3, s1, s2, s3, Value.cells] at g0 g1 g2 g3 g4 g5 g6 g7 g8 g9
    obtain ⟨n0, e0, -, w0⟩ := DataW.trod_int Try.underlying3 g0
    obtain ⟨n1, e1, -, w1⟩ := DataW.trod_int Try.underlying3 g1
    obtain ⟨n2, e2, -, w2⟩ := DataW.trod_int Try.underlying3 g2
    obtain ⟨n3, e3, -, w3⟩ := DataW.trod_int Try.underlying3 g3
    obtain ⟨n4, e4, -, w4⟩ := DataW.trod_int Try.underlying3 g4
    obtain ⟨n5, e5, -, w5⟩ := DataW.trod_int Try.underlying3 g5
    obtain ⟨A6, n6, c6, e6⟩ := slice_of_cells Try.underlying23 g6
    obtain ⟨A7, n7, c7, e7⟩ := slice_of_cells Try.underlying22 g7
    obtain ⟨A8, n8, c8, L8, e8, q1, q2, q3⟩ := bs_of_cells g8
    obtain ⟨A9, n9, c9, L9, e9, r1, r2, r3⟩ := bs_of_cells g9
    obtain ⟨B8, m8, k8, f8, d8⟩ := bs_data g8
    obtain ⟨B9, m9, k9, f9, d9⟩ := bs_data g9
    simp only [List.cons.injEq, and_true] at e0 e1 e2 e3 e4 e5 e6 e7 e8 e9 f8 f9
    rw [e8] at f8
    rw [e9] at f9
    injection f8 with _ f8 _
    injection f9 with _ f9 _
    refine ⟨n0, n1, n2, n3, n4, n5, A6, A7, A8, A9, n6, c6, n7, c7, n8, c8, n9, c9, L8, L9, by rw [e0, e1, e2, e3, e4, e5, e6, e7, e8, e9], i64_wf w3, ⟨q1, q2, q3⟩, ⟨r1, r2, r3⟩, fun hw => ?_⟩
    simp only [Prod.mk.injEq] at hxy
    rw [hxy.1] at hw
    constructor
    · rcases d8 with ⟨_, h0⟩ | ⟨us, ys, hu, hy⟩
      · omega
      · have hm : (us.length + ys.length) * Try.prog.bytesOf 119 ≤ reachBytes := by
          refine hw _ ?_
          simp only [List.map_cons, List.map_nil, hy]
          simp only [DataW.weights, Try.underlying26, DataW.weightsEach, Try.underlying24, List.map_cons, List.map_nil, List.mem_append, List.mem_cons]
          simp
        rw [bytesB] at hm
        simp only [reachBytes] at hm
        omega
    · rcases d9 with ⟨_, h0⟩ | ⟨us, ys, hu, hy⟩
      · omega
      · have hm : (us.length + ys.length) * Try.prog.bytesOf 119 ≤ reachBytes := by
          refine hw _ ?_
          simp only [List.map_cons, List.map_nil, hy]
          simp only [DataW.weights, Try.underlying26, DataW.weightsEach, Try.underlying24, List.map_cons, List.map_nil, List.mem_append, List.mem_cons]
          simp
        rw [bytesB] at hm
        simp only [reachBytes] at hm
        omega
end
end Go.Proofs.Ytejcijbohnlbgaa
/- Contract of package zone's Put, of whatever bounds. -/
namespace Go.Proofs.Ytejcijbohnlbgaa
open Go.ChangeShapes Go.WideShapes Go.ChangeAt Go.RowKit
open Zon
set_option linter.unusedVariables false
set_option maxRecDepth 100000
/-- sixty bounds that stand somewhere -/
structure SixAt (w : World) (g off : Nat) (b : Nat → Bool × Int) : Prop where
  lt : g < w.heap.size
  is' : ∀ q, q < 60 → w.cell? ⟨g, off + q * 2, none⟩ = some (.bool (b q).1)
  c' : ∀ q, q < 60 → w.cell? ⟨g, off + q * 2 + 1, none⟩ = some (.int .i64 (b q).2)
theorem SixAt.up {w w' : World} {g off : Nat} {b : Nat → Bool × Int} (h : SixAt w g off b) (hb : Below w.heap.size w w') : SixAt w' g off b :=
  ⟨Nat.lt_of_lt_of_le h.lt hb.size, fun q hq => (hb.cell (p := ⟨g, off + q * 2, none⟩) h.lt).trans (h.is' q hq), fun q hq => (hb.cell (p := ⟨g, off + q * 2 + 1, none⟩) h.lt).trans (h.c' q hq)⟩
theorem SixAt.is_ {w : World} {g off : Nat} {b : Nat → Bool × Int} (h : SixAt w g off b) (q : Nat) (hq : q < 60) : w.cell? ⟨g, off + q * 2, none⟩ = some (.bool (b q).1) := h.is' q hq
theorem SixAt.c_ {w : World} {g off : Nat} {b : Nat → Bool × Int} (h : SixAt w g off b) (q : Nat) (hq : q < 60) : w.cell? ⟨g, off + q * 2 + 1, none⟩ = some (.int .i64 (b q).2) := h.c' q hq
/-- none of them is wrong -/
def okB (x : Nat) (b : Nat → Bool × Int) : Prop := ∀ q, q < 60 → q ≠ x → (b q).1 = true → rngB (b q).2 = true
theorem builtRow0 : Try.prog.built 101 [] = some (arr 60 fun _ => .int .i64 0) := by kernel_rfl
set_option maxHeartbeats 4000000 in
theorem othersG_any (w : World) (x g off cp : Nat) (b : Nat → Bool × Int) (hx : x < 60) (hb : SixAt w g off b) :
    Calls Try.prog 55 #[.int .i64 x, .slice (some ⟨g, off, none⟩) 60 cp] w fun e w' => ((okB x b ∧ e = .returned (.tuple #[.agg (arr 60 fun q => .int .i64 (othR x b q)), .int .i64 0])) ∨ ∃ R, (∀ q, q < 60 → (R q).oneCell' = true) ∧ e = .returned (.tuple #[.agg (arr 60 R), .int .i64 51])) ∧ Below w.heap.size w w' := by
  have HB := Lib.hid hb
  have hx1 : (x : Int) < 60 := by omega
  have hx0 : (0 : Int) ≤ x := by omega
  clear hb
  go_enter Try.func55, Try.ntmps55
  go_upto_region 1 with (refine wpList_alloc_seg rfl 101 rfl 60 (fun _ => .int .i64 0) zeroRow ?_; intro w1 hb1 hB1 hs1)
  obtain ⟨g1, hg1⟩ : ∃ g1, g1 = w.heap.size := ⟨_, rfl⟩
  rw [← hg1] at hb1 ⊢
  have HG1 := Lib.hid (show w.heap.size ≤ g1 by omega)
  have HB1 := Lib.hid hB1
  have Hb1 := Lib.hid hb1
  clear hg1 hb1 hB1 hs1
  go_upto_region 2 with (first
    | (go_at_call 71; refine (blank_any _).mono ?_; rintro e w2 ⟨rfl, hB2⟩)
    | (refine wpList_alloc_seg rfl 101 rfl 60 (fun _ => .int .i64 0) zeroRow ?_; intro w3 hb3 hB3 hs3)
    | (refine wpList_store_all rfl 101 _ _ rfl w2.heap.size 101 60 _ blankF rfl rfl hb3 sizeRow (fun _ _ => rfl) ?_; intro w4 hb4 hT4 hs4))
  obtain ⟨g6, hg6⟩ : ∃ g6, g6 = w2.heap.size := ⟨_, rfl⟩
  rw [← hg6] at hb4 hT4 ⊢
  have HG6 := Lib.hid (show w.heap.size ≤ g6 by have := HB1.out.size; have := hB2.size; omega)
  have HNE := Lib.hid (show g1 ≠ g6 by have := Hb1.out.lt; have := hB2.size; omega)
  have hB12 := HB1.out.trans (hB2.mono HB1.out.size)
  have hB123 := hB12.trans (hB3.mono hB12.size)
  have HB4 := Lib.hid (hB123.trans (hT4.below HG6.out hB123.size))
  have H1b := Lib.hid (FB.touch (FB.up (FB.up Hb1.out hB2) hB3) hT4 HNE.out)
  have H6b := Lib.hid (hb4.congr (f' := fun q => .int .i64 (if q < 0 then othR x b q else 3458764513820540928)) fun q _ => by rw [if_neg (by omega)]; rfl)
  clear hg6 hb4 hT4 hs4 hB3 hb3 hs3 hB2 hB12 hB123
  go_wp2_with fail
  go_loopw [12] (fun i wr => ∃ k : Nat, k ≤ 60 ∧ i = .int .i64 k ∧ FB wr g6 101 60 (fun q => .int .i64 (if q < k then othR x b q else 3458764513820540928)) ∧ FB wr g1 101 60 (fun _ => .int .i64 0) ∧ (∀ q, q < k → q ≠ x → (b q).1 = true → rngB (b q).2 = true) ∧ Below w.heap.size w wr) (fun i _ => (60 - intOf i).toNat)
  case atStart => exact ⟨0, by omega, rfl, H6b.out, H1b.out, fun q hq => absurd hq (by omega), HB4.out⟩
  case round =>
    clear H6b H1b HB4 Hb1 HB1
    obtain ⟨k, hk, rfl, h6, h1, hgood, hB⟩ := hrel
    have HGD := Lib.hid hgood
    clear hgood
    have hk0 : (0 : Int) ≤ k := by omega
    by_cases hlt : k < 60
    · have hk1 : (k : Int) < 60 := by omega
      have hbw := HB.out.up hB
      have y0 := hbw.is_ k hlt
      have y1 := hbw.c_ k hlt
      obtain ⟨bi, hbi⟩ : ∃ bi, bi = (b k).1 := ⟨_, rfl⟩
      obtain ⟨bc, hbc⟩ : ∃ bc, bc = (b k).2 := ⟨_, rfl⟩
      rw [← hbi] at y0
      rw [← hbc] at y1
      have HBIC := Lib.hid (show (b k).1 = bi ∧ (b k).2 = bc from ⟨hbi.symm, hbc.symm⟩)
      have HNX := Lib.hid (show othR x b k = if k = x then 3458764513820540928 else if bi = true then bc else 3458764513820540928 by rw [hbi, hbc]; rfl)
      have HLT := Lib.hid hlt
      clear hbi hbc hlt hbw
      go_upto_region 5 with (fail)
      have HB2 := Lib.hid (hB.trans ((below_box wr (.cells #[.bool bi, .int .i64 bc] 77)).mono hB.size))
      have H6 := Lib.hid (FB.up h6 (below_box wr (.cells #[.bool bi, .int .i64 bc] 77)))
      have H1 := Lib.hid (FB.up h1 (below_box wr (.cells #[.bool bi, .int .i64 bc] 77)))
      have hbx := Blk.new wr 77 #[.bool bi, .int .i64 bc]
      generalize wr.alloc (.cells #[.bool bi, .int .i64 bc] 77) = W1 at *
      generalize wr.heap.size = gx at *
      have x0 : W1.cell? ⟨gx, 0, none⟩ = some (.bool bi) := hbx.cell 0
      have x1 : W1.cell? ⟨gx, 1, none⟩ = some (.int .i64 bc) := hbx.cell 1
      clear y0 y1 hB h6 h1 hbx
      by_cases hkx : k = x
      · have t1 : ((k : Int) == (x : Int)) = true := by rw [hkx]; exact beq_self_eq_true _
        have H6n := Lib.hid (H6.out.congr (f' := fun q => .int .i64 (if q < k + 1 then othR x b q else 3458764513820540928)) fun q _ => by
          show Value.int .i64 (if q < k then _ else _) = Value.int .i64 (if q < k + 1 then _ else _)
          by_cases e : q = k
          · rw [if_neg (by omega), if_pos (by omega), e, HNX.out, if_pos hkx]
          · by_cases e2 : q < k
            · rw [if_pos e2, if_pos (by omega)]
            · rw [if_neg e2, if_neg (by omega)])
        have HGD2 := Lib.hid (show ∀ q, q < k + 1 → q ≠ x → (b q).1 = true → rngB (b q).2 = true from fun q hq hqx => by
          by_cases e : q = k
          · exact absurd (e.trans hkx) hqx
          · exact HGD.out q (by omega) hqx)
        clear hkx
        go_wp2_with fail
        go_roundw
        case rel => exact ⟨k + 1, by have := HLT.out; omega, by go_num, H6n.out, H1.out, HGD2.out, HB2.out⟩
        case measure => simp [intOf]; omega
      · have t1 : ((k : Int) == (x : Int)) = false := by rw [beq_eq_false_iff_ne]; omega
        cases bi with
        | false =>
          have H6n := Lib.hid (H6.out.congr (f' := fun q => .int .i64 (if q < k + 1 then othR x b q else 3458764513820540928)) fun q _ => by
            show Value.int .i64 (if q < k then _ else _) = Value.int .i64 (if q < k + 1 then _ else _)
            by_cases e : q = k
            · rw [if_neg (by omega), if_pos (by omega), e, HNX.out, if_neg hkx]; rfl
            · by_cases e2 : q < k
              · rw [if_pos e2, if_pos (by omega)]
              · rw [if_neg e2, if_neg (by omega)])
          have HGD2 := Lib.hid (show ∀ q, q < k + 1 → q ≠ x → (b q).1 = true → rngB (b q).2 = true from fun q hq hqx => by
            by_cases e : q = k
            · intro h; rw [e, HBIC.out.1] at h; cases h
            · exact HGD.out q (by omega) hqx)
          clear hkx
          go_wp2_with fail
          go_roundw
          case rel => exact ⟨k + 1, by have := HLT.out; omega, by go_num, H6n.out, H1.out, HGD2.out, HB2.out⟩
          case measure => simp [intOf]; omega
        | true =>
          cases hrg : rngB bc
          · clear hkx
            go_upto_region 7 with (go_at_call 52; refine (inRange_any _ _).mono ?_; rintro e w' ⟨rfl, rfl⟩; rw [hrg])
            go_wp2_with (first
              | (refine wpList_build_to rfl 101 _ rfl [] (arr 60 fun _ => .int .i64 0) rfl builtRow0 ?_)
              | (refine wpList_store_all rfl 101 _ _ rfl g1 101 60 _ (fun _ => .int .i64 0) rfl rfl H1.out sizeRow (fun _ _ => rfl) ?_; intro w7 h7 hT7 hs7))
            refine bodyPost_ret (result_row_tmp rfl _ _ g1 _ (fun _ => .int .i64 0) rfl h7) rfl ⟨.inr ⟨_, fun _ _ => rfl, rfl⟩, ?_⟩
            exact HB2.out.trans (hT7.below HG1.out HB2.out.size)
          have HGD2 := Lib.hid (show ∀ q, q < k + 1 → q ≠ x → (b q).1 = true → rngB (b q).2 = true from fun q hq hqx => by
            by_cases e : q = k
            · intro _; rw [e, HBIC.out.2]; exact hrg
            · exact HGD.out q (by omega) hqx)
          have z0 := FB.cell H6.out k HLT.out
          have f0 := FB.frozen H6.out k
          have H6n := Lib.hid ((FB.set_ H6.out k (.int .i64 bc)).congr (f' := fun q => .int .i64 (if q < k + 1 then othR x b q else 3458764513820540928)) fun q _ => by
            show upd _ k (.int .i64 bc) q = Value.int .i64 (if q < k + 1 then _ else _)
            unfold upd
            by_cases e : q = k
            · rw [if_pos e, if_pos (by omega), e, HNX.out, if_neg hkx]; rfl
            · rw [if_neg e]
              show Value.int .i64 (if q < k then _ else _) = _
              by_cases e2 : q < k
              · rw [if_pos e2, if_pos (by omega)]
              · rw [if_neg e2, if_neg (by omega)])
          have H1n := Lib.hid (FB.far H1.out (p := ⟨g6, k, none⟩) HNE.out (.int .i64 bc))
          have HBn := Lib.hid (HB2.out.trans ((Touch.set_ (g := g6) W1 k (.int .i64 bc)).below HG6.out HB2.out.size))
          clear hkx
          go_wp2_with (go_at_call 52; refine (inRange_any _ _).mono ?_; rintro e w' ⟨rfl, rfl⟩; rw [hrg])
          go_roundw
          case rel => exact ⟨k + 1, by have := HLT.out; omega, by go_num, H6n.out, H1n.out, HGD2.out, HBn.out⟩
          case measure => simp [intOf]; omega
    · obtain rfl : k = 60 := by omega
      have H6 := Lib.hid (h6.congr (f' := fun q => .int .i64 (othR x b q)) fun q hq => by show Value.int .i64 (if q < 60 then _ else _) = _; rw [if_pos hq])
      have H1 := Lib.hid h1
      have HBl := Lib.hid hB
      clear h6 h1 hB
      go_wp2_with (first
        | (refine wpList_load_all rfl 101 _ rfl g6 rfl 101 60 _ _ H6.out Try.underlying101 rfl sizeRow ?_)
        | (refine wpList_store_all rfl 101 _ _ rfl g1 101 60 _ (fun q => .int .i64 (othR x b q)) rfl rfl H1.out sizeRow (fun _ _ => rfl) ?_; intro w7 h7 hT7 hs7))
      refine bodyPost_ret (result_row_tmp rfl _ _ g1 _ (fun q => .int .i64 (othR x b q)) rfl h7) rfl ⟨.inl ⟨HGD.out, rfl⟩, ?_⟩
      exact HBl.out.trans (hT7.below HG1.out HBl.out.size)
end Go.Proofs.Ytejcijbohnlbgaa
/- Put of sixty bounds, whatever they are. -/
namespace Go.Proofs.Ytejcijbohnlbgaa
open Go.ChangeShapes Go.WideShapes Go.ChangeAt Go.RowKit
open Zon
set_option linter.unusedVariables false
set_option maxRecDepth 100000
theorem othOk {x : Nat} {b d : Nat → Bool × Int} (hb : okB x b) (hd : okB x d) : PutOk x (othR x b) (othR x d) :=
  ⟨fun q hq => by
    unfold othR
    by_cases e : q = x
    · rw [if_pos e]; exact ok_no
    · rw [if_neg e]
      by_cases g : (b q).1 = true
      · rw [if_pos g]; exact ok_of_rng (hb q hq e g)
      · rw [if_neg g]; exact ok_no, fun q hq => by
    unfold othR
    by_cases e : q = x
    · rw [if_pos e]; exact ok_no
    · rw [if_neg e]
      by_cases g : (d q).1 = true
      · rw [if_pos g]; exact ok_of_rng (hd q hq e g)
      · rw [if_neg g]; exact ok_no, if_pos rfl, if_pos rfl⟩
set_option maxHeartbeats 2000000 in
/-- Put of sixty bounds and sixty, whatever they are: it answers something -/
theorem Put_sixty (w : World) (g x gu gd ou od cu cd : Nat) (z : Zn) (u d : Nat → Bool × Int) (hz : ZoneAt w g z) (hx : x < 60) (hx1 : 1 ≤ x) (hu : SixAt w gu ou u) (hd : SixAt w gd od d) :
    Calls Try.prog 18 #[.pointer (some ⟨g, 0, none⟩), .int .i64 x, .slice (some ⟨gu, ou, none⟩) 60 cu, .slice (some ⟨gd, od, none⟩) 60 cd] w fun e w' => ∃ v, e = .returned v ∧ Below w.heap.size w w' := by
  have HZ := Lib.hid hz
  have HU := Lib.hid hu
  have HD := Lib.hid hd
  have HX := Lib.hid hx
  have r1 : renewB x = true := by unfold renewB; simp; omega
  obtain ⟨w1, hw1⟩ : ∃ w1, w1 = w.alloc (.cells #[.int .i64 x] 3) := ⟨_, rfl⟩
  have k1 : w1.cell? ⟨w.heap.size, 0, none⟩ = some (.int .i64 x) := by rw [hw1]; simp [go_sem]
  have HK1 := Lib.hid k1
  have HB1 := Lib.hid (show Below w.heap.size w w1 by rw [hw1]; exact below_box w _)
  have HS1 := Lib.hid (show w.heap.size < w1.heap.size by rw [hw1]; simp)
  have HW1 := Lib.hid hw1
  clear hz hu hd hx hx1 k1 hw1
  go_enter Try.func18, Try.ntmps18
  go_upto_region 1 with (fail)
  rw [← HW1.out]
  obtain ⟨bx, hbx⟩ : ∃ bx, bx = w.heap.size := ⟨_, rfl⟩
  rw [← hbx] at HK1 HS1 ⊢
  have HBX := Lib.hid hbx
  have v0 := HK1.out
  clear hbx HW1
  go_upto_region 5 with (go_at_call 49; refine (renewable_any _ _).mono ?_; rintro e w' ⟨rfl, rfl⟩)
  clear r1
  go_wp2_with fail
  go_at_call 55
  refine (othersG_any w1 x gu ou cu u HX.out (HU.out.up HB1.out)).mono ?_
  rintro e w2 ⟨⟨hoku, rfl⟩ | ⟨R0, hR1, rfl⟩, hB2⟩
  rotate_left
  · have HBe := Lib.hid (HB1.out.trans (hB2.mono HB1.out.size))
    clear v0
    go_upto_region 6 with (
      refine wpList_alloc_seg rfl 101 rfl 60 (fun _ => .int .i64 0) zeroRow ?_
      intro w3 hb3 hB3 hs3
      obtain ⟨ga, hga⟩ : ∃ ga, ga = w2.heap.size := ⟨_, rfl⟩
      rw [← hga] at hb3 ⊢
      have HGA := Lib.hid (show w1.heap.size ≤ ga by have := hB2.size; omega)
      have HB3 := Lib.hid (hB2.trans (hB3.mono hB2.size))
      clear hga hs3 hB3 hB2 HBe
      refine wpList_store_all rfl 101 _ _ rfl ga 101 60 _ R0 rfl rfl hb3 sizeRow hR1 ?_
      intro w4 hb4 hT4 hs4
      have HB4 := Lib.hid (HB3.out.trans (hT4.below HGA.out HB3.out.size))
      clear hb3 hb4 hT4 hs4 HB3)
    go_wp2_with fail
    go_ret2
    exact ⟨_, rfl, HB1.out.trans (HB4.out.mono HB1.out.size)⟩
  obtain ⟨Ru, hRu⟩ : ∃ R, R = othR x u := ⟨_, rfl⟩
  rw [← hRu]
  have HRu := Lib.hid hRu
  have HKU := Lib.hid hoku
  clear hRu v0 hoku
  go_upto_region 6 with (
    refine wpList_alloc_seg rfl 101 rfl 60 (fun _ => .int .i64 0) zeroRow ?_
    intro w3 hb3 hB3 hs3
    obtain ⟨ga, hga⟩ : ∃ ga, ga = w2.heap.size := ⟨_, rfl⟩
    rw [← hga] at hb3 ⊢
    have HGA := Lib.hid (show w1.heap.size ≤ ga by have := hB2.size; omega)
    have HB3 := Lib.hid (hB2.trans (hB3.mono hB2.size))
    clear hga hs3 hB3 hB2
    refine wpList_store_all rfl 101 _ _ rfl ga 101 60 _ (fun q => .int .i64 (Ru q)) rfl rfl hb3 sizeRow (fun _ _ => rfl) ?_
    intro w4 hb4 hT4 hs4
    have HUa := Lib.hid hb4
    have HB4 := Lib.hid (HB3.out.trans (hT4.below HGA.out HB3.out.size))
    clear hb3 hb4 hT4 hs4 HB3)
  have v0 : w4.cell? ⟨bx, 0, none⟩ = some (.int .i64 x) := (HB4.out.cell (p := ⟨bx, 0, none⟩) HS1.out).trans HK1.out
  have HB14 := Lib.hid (HB1.out.trans (HB4.out.mono HB1.out.size))
  go_upto_region 8 with (fail)
  go_wp2_with fail
  go_at_call 55
  refine (othersG_any w4 x gd od cd d HX.out (HD.out.up HB14.out)).mono ?_
  rintro e w5 ⟨⟨hokd, rfl⟩ | ⟨R0, hR1, rfl⟩, hB5⟩
  rotate_left
  · clear v0
    go_upto_region 9 with (
      refine wpList_alloc_seg rfl 101 rfl 60 (fun _ => .int .i64 0) zeroRow ?_
      intro w6 hb6 hB6 hs6
      obtain ⟨gb, hgb⟩ : ∃ gb, gb = w5.heap.size := ⟨_, rfl⟩
      rw [← hgb] at hb6 ⊢
      have HGB := Lib.hid (show w4.heap.size ≤ gb by have := hB5.size; omega)
      have HB6 := Lib.hid (hB5.trans (hB6.mono hB5.size))
      clear hgb hs6 hB6 hB5
      refine wpList_store_all rfl 101 _ _ rfl gb 101 60 _ R0 rfl rfl hb6 sizeRow hR1 ?_
      intro w7 hb7 hT7 hs7
      have HB7 := Lib.hid (HB6.out.trans (hT7.below HGB.out HB6.out.size))
      clear hb6 hb7 hT7 hs7 HB6)
    go_wp2_with fail
    go_ret2
    exact ⟨_, rfl, HB14.out.trans (HB7.out.mono HB14.out.size)⟩
  obtain ⟨Rd, hRd⟩ : ∃ R, R = othR x d := ⟨_, rfl⟩
  rw [← hRd]
  have HRd := Lib.hid hRd
  have HO := Lib.hid (show PutOk x Ru Rd by rw [HRu.out, hRd]; exact othOk HKU.out hokd)
  clear v0 hRd hokd
  go_upto_region 9 with (
    refine wpList_alloc_seg rfl 101 rfl 60 (fun _ => .int .i64 0) zeroRow ?_
    intro w6 hb6 hB6 hs6
    obtain ⟨gb, hgb⟩ : ∃ gb, gb = w5.heap.size := ⟨_, rfl⟩
    rw [← hgb] at hb6 ⊢
    have HGB := Lib.hid (show w4.heap.size ≤ gb by have := hB5.size; omega)
    have HB6 := Lib.hid (hB5.trans (hB6.mono hB5.size))
    clear hgb hs6 hB6 hB5
    refine wpList_store_all rfl 101 _ _ rfl gb 101 60 _ (fun q => .int .i64 (Rd q)) rfl rfl hb6 sizeRow (fun _ _ => rfl) ?_
    intro w7 hb7 hT7 hs7
    have HDb := Lib.hid hb7
    have HB7 := Lib.hid (HB6.out.trans (hT7.below HGB.out HB6.out.size))
    clear hb6 hb7 hT7 hs7 HB6)
  have HUa7 := Lib.hid (FB.up HUa.out HB7.out)
  have HK7 := Lib.hid (show w7.cell? ⟨bx, 0, none⟩ = some (.int .i64 x) from (HB7.out.cell (p := ⟨bx, 0, none⟩) (show bx < w4.heap.size by have := HS1.out; have := HB4.out.size; omega)).trans ((HB4.out.cell (p := ⟨bx, 0, none⟩) HS1.out).trans HK1.out))
  have HB17 := Lib.hid (HB14.out.trans (HB7.out.mono HB14.out.size))
  have HS7 := Lib.hid (show bx < w7.heap.size by have := HS1.out; have := HB4.out.size; have := HB7.out.size; omega)
  clear HUa HB14 HB7 HB4 HK1 HS1 HU HD
  go_wp2_with fail
  go_at_call 42
  refine (changed_any w7 g 56 #[.pointer (some ⟨bx, 0, none⟩), .pointer (some ⟨ga, 0, none⟩), .pointer (some ⟨gb, 0, none⟩)] z (fun M => putZ (some M) x Ru Rd) (fun _ _ => by kernel_rfl) (HZ.out.up HB17.out) (fun M N hM hN => ?_) (fun M W g' hM hW hg' hBW => ?_)).mono ?_
  · have hN : (if negT (putT M x Ru Rd) then none else some (putT M x Ru Rd)) = some N := hN
    split at hN
    · cases hN
    · injection hN with e; subst e; exact okT_put (HZ.out.ok M hM) x Ru Rd
  · have d1 : W.cell? ⟨bx, 0, none⟩ = some (.int .i64 x) := (hBW.cell (p := ⟨bx, 0, none⟩) HS7.out).trans HK7.out
    have hla := HUa7.out.lt
    have hlb := HDb.out.lt
    exact putClo_any W g' bx ga gb x M Ru Rd hW (HZ.out.ok M hM) HX.out HO.out (FB.up HUa7.out hBW) (FB.up HDb.out hBW) (by omega) (by omega) d1
  rintro e w8 ⟨g', rfl, hg', hz', hB8⟩
  have HB8 := Lib.hid (HB17.out.trans (hB8.mono HB17.out.size))
  clear hz' hB8 hg'
  go_wp2_with fail
  go_ret2
  exact ⟨_, rfl, HB8.out⟩
end Go.Proofs.Ytejcijbohnlbgaa
/- Put and Assign of whatever is handed in: they answer something. -/
namespace Go.Proofs.Ytejcijbohnlbgaa
open Go.ChangeShapes Go.WideShapes Go.ChangeAt Go.RowKit
open Zon
set_option linter.unusedVariables false
set_option maxRecDepth 100000
theorem six_of {w : World} {A : Option Addr} {L : List (Bool × Int)} (h : BsAt w A L) (hl : L.length = 60) : ∃ b off, A = some ⟨b, off, none⟩ ∧ SixAt w b off (fun q => (L[q]?).getD (false, 0)) := by
  obtain ⟨b, off, e, hb, hc⟩ := h (by omega)
  refine ⟨b, off, e, hb, fun q hq => ?_, fun q hq => ?_⟩
  · have hx : L[q]? = some L[q] := List.getElem?_eq_getElem (by omega)
    rw [(hc q _ hx).1, hx]; rfl
  · have hx : L[q]? = some L[q] := List.getElem?_eq_getElem (by omega)
    rw [(hc q _ hx).2, hx]; rfl
def Some_ (w : World) (e : Ending) (w' : World) : Prop := ∃ v, e = .returned v ∧ Below w.heap.size w w'
set_option maxHeartbeats 1000000 in
theorem PutX_any (w : World) (g : Nat) (z : Zn) (X : Int) (A8 A9 : Option Addr) (n8 c8 n9 c9 : Nat) (L8 L9 : List (Bool × Int)) (hz : ZoneAt w g z) (l8 : L8.length = n8) (i8 : BsAt w A8 L8) (l9 : L9.length = n9) (i9 : BsAt w A9 L9) :
    Calls Try.prog 18 #[.pointer (some ⟨g, 0, none⟩), .int .i64 X, .slice A8 n8 c8, .slice A9 n9 c9] w (Some_ w) := by
  have HBX := Lib.hid (below_box w (.cells #[.int .i64 X] 3))
  have v0 : (w.alloc (.cells #[.int .i64 X] 3)).cell? ⟨w.heap.size, 0, none⟩ = some (.int .i64 X) := by simp [go_sem]
  cases hr : renewB X with
  | false =>
    clear hz l8 i8 l9 i9
    go_enter Try.func18, Try.ntmps18
    go_wp2_with (go_at_call 49; refine (renewable_any _ _).mono ?_; rintro e w' ⟨rfl, rfl⟩)
    go_ret2
    exact ⟨_, rfl, HBX.out⟩
  | true =>
    by_cases h8 : n8 = 60
    · by_cases h9 : n9 = 60
      · subst h8; subst h9
        obtain ⟨x, rfl, hx6, hx1⟩ := renewB_nat hr
        obtain ⟨b1, o1, rfl, s1⟩ := six_of i8 l8
        obtain ⟨b2, o2, rfl, s2⟩ := six_of i9 l9
        exact Put_sixty w g x b1 b2 o1 o2 c8 c9 z _ _ hz hx6 hx1 s1 s2
      · have t8 : ((n8 : Int) != 60) = false := by rw [h8]; rfl
        have t8' : ((n8 : Int) == 60) = true := by rw [h8]; rfl
        have t9 : ((n9 : Int) != 60) = true := by rw [bne_iff_ne]; omega
        have t9' : ((n9 : Int) == 60) = false := by rw [beq_eq_false_iff_ne]; omega
        clear hz l8 i8 l9 i9 h8 h9
        go_enter Try.func18, Try.ntmps18
        go_wp2_with (go_at_call 49; refine (renewable_any _ _).mono ?_; rintro e w' ⟨rfl, rfl⟩)
        go_ret2
        exact ⟨_, rfl, HBX.out⟩
    · have t8 : ((n8 : Int) != 60) = true := by rw [bne_iff_ne]; omega
      have t8' : ((n8 : Int) == 60) = false := by rw [beq_eq_false_iff_ne]; omega
      clear hz l8 i8 l9 i9 h8
      go_enter Try.func18, Try.ntmps18
      go_wp2_with (go_at_call 49; refine (renewable_any _ _).mono ?_; rintro e w' ⟨rfl, rfl⟩)
      go_ret2
      exact ⟨_, rfl, HBX.out⟩
theorem varB_nat {v : Int} (h : varB v = true) : ∃ n : Nat, v = n ∧ n < 60 := by
  unfold varB at h
  simp only [Bool.and_eq_true, decide_eq_true_eq] at h
  exact ⟨v.toNat, by omega, by omega⟩
set_option maxHeartbeats 1000000 in
theorem AssignX_any (w : World) (g : Nat) (z : Zn) (X Y C : Int) (hz : ZoneAt w g z) :
    Calls Try.prog 17 #[.pointer (some ⟨g, 0, none⟩), .int .i64 X, .int .i64 Y, .int .i64 C] w (Some_ w) := by
  have c1 : (w.alloc (.cells #[.int .i64 X] 3)).heap.size = w.heap.size + 1 := by simp
  have HBX := Lib.hid (show Below w.heap.size w (((w.alloc (.cells #[.int .i64 X] 3)).alloc (.cells #[.int .i64 Y] 3)).alloc (.cells #[.int .i64 C] 3)) from (((Below.refl _ _).alloc (Nat.le_refl _) _).alloc (by simp) _).alloc (by simp; omega) _)
  cases hr : renewB X with
  | false =>
    clear hz
    go_enter Try.func17, Try.ntmps17
    go_wp2_with (go_at_call 49; refine (renewable_any _ _).mono ?_; rintro e w' ⟨rfl, rfl⟩)
    go_ret2
    exact ⟨_, rfl, HBX.out⟩
  | true =>
    cases hv : varB Y with
    | false =>
      clear hz
      go_enter Try.func17, Try.ntmps17
      go_wp2_with (first
        | (go_at_call 49; refine (renewable_any _ _).mono ?_; rintro e w' ⟨rfl, rfl⟩)
        | (go_at_call 51; refine (variable_any _ _).mono ?_; rintro e w' ⟨rfl, rfl⟩))
      go_ret2
      exact ⟨_, rfl, HBX.out⟩
    | true =>
      cases hc : rngB C with
      | false =>
        clear hz
        go_enter Try.func17, Try.ntmps17
        go_wp2_with (first
          | (go_at_call 49; refine (renewable_any _ _).mono ?_; rintro e w' ⟨rfl, rfl⟩)
          | (go_at_call 51; refine (variable_any _ _).mono ?_; rintro e w' ⟨rfl, rfl⟩)
          | (go_at_call 52; refine (inRange_any _ _).mono ?_; rintro e w' ⟨rfl, rfl⟩))
        go_ret2
        exact ⟨_, rfl, HBX.out⟩
      | true =>
        obtain ⟨x, rfl, hx6, hx1⟩ := renewB_nat hr
        obtain ⟨y, rfl, hy6⟩ := varB_nat hv
        exact (Assign_law w g z x y C hz hx6 hx1 hy6 hc).mono fun e w' ⟨g', h1, _, h3⟩ => ⟨_, h1, h3⟩
end Go.Proofs.Ytejcijbohnlbgaa
/- The law's copy of numbers with one more behind them; what the law of lists that are kept holds. -/
namespace Go.Proofs.Ytejcijbohnlbgaa
open Go.ChangeShapes Go.WideShapes Go.ChangeAt Go.RowKit
open Zon
set_option linter.unusedVariables false
set_option maxRecDepth 100000
def OwnN (w : World) (base : Nat) (v : Value) (L : List Int) : Prop := w.ownsRow base 3 1 v L.length (L.map (Value.int .i64))
theorem OwnN.up {w w' : World} {base : Nat} {v : Value} {L : List Int} (h : OwnN w base v L) (hb : Below w.heap.size w w') : OwnN w' base v L := own_keep h fun b _ hlt => hb.block b hlt
theorem nums_push (w : World) {ops : Array Oper} {rest : List Oper} {o : Oper} {a : Act} {Q : Exit → Act → World → Prop} (hgd : Region.wanted o (yielded ops a.tmps) = true) (s x : Operand)
    (ho : o.op = .call { callee := .builtin .append, args := #[s, x], argTypes := #[23, 23] })
    (base : Nat) (v : Value) (N : List Int) (hs : a.eval s = v) (hown : OwnN w base v N)
    (A : Option Addr) (m c : Nat) (M : List Int) (hx : a.eval x = .slice A m c) (hm : M.length = m) (hr : NumsAt w A M)
    (hlen : N.length + m ≤ 20000000000000) (hbase : base ≤ w.heap.size)
    (h : ∀ v' w', OwnN w' base v' (N ++ M) → Below base w w' → wpList Try.prog ops Q rest (a.put o.dst v') w') : wpList Try.prog ops Q (o :: rest) a w := by
  subst hm
  obtain ⟨i0, hi, hz0, hz1, hz2⟩ := info_parts int_info'
  refine wpList_append_wide w hgd s x 23 ho base 3 i0 (.int .i64 0) 1 8 Try.underlying23 hi hz0 hz1 hz2 rfl (by decide) v N.length _ hs hown w.heap.size A M.length c _ hx (nums_reads hr)
    (fun u hu => ?_) (by unfold maxLen; omega) (by omega) hbase ?_
  · simp only [List.mem_map] at hu
    obtain ⟨z, _, rfl⟩ := hu
    rfl
  · intro v' w' h1 h2
    refine h v' w' ?_ ((Below.refl base w).grown h2 hbase fun k hk => (World.ownsRow.lt hown k hk).1)
    unfold OwnN
    rw [List.length_append, List.map_append]
    exact h1
set_option maxHeartbeats 1000000 in
theorem copyInts_own (w : World) (A : Option Addr) (n c : Nat) (L : List Int) (i : NumIn w A n c L) :
    Calls Try.prog 15 #[.slice A n c] w fun e w' => ∃ A' c', e = .returned (.slice A' n c') ∧ OwnN w' w.heap.size (.slice A' n c') L ∧ Below w.heap.size w w' := by
  have I := Lib.hid i
  have hn := i.reach
  clear i
  go_enter Try.func15, Try.ntmps15
  go_wp2_with (refine nums_push w rfl _ _ rfl w.heap.size _ [] rfl ⟨rfl, .inl ⟨rfl, rfl⟩⟩ A n c L rfl I.out.len I.out.at_ (by simp only [List.length_nil]; omega) (Nat.le_refl _) ?_; intro v' w' hA hB)
  obtain ⟨A', c', rfl, -⟩ := nums_own hA
  rw [List.nil_append, I.out.len] at hA ⊢
  have HA := Lib.hid hA
  have HB := Lib.hid hB
  clear hA hB
  go_wp2_with fail
  go_ret
  exact ⟨A', c', rfl, HA.out, HB.out⟩
theorem nums_one (w : World) (x : Int) (t : TypeId) : NumsAt (w.alloc (.cells #[.int .i64 x] t)) (some ⟨w.heap.size, 0, none⟩) [x] := fun _ =>
  ⟨w.heap.size, 0, rfl, by simp, fun i y hy => by
    rw [Nat.zero_add, cell_of_row _ w.heap.size i _ t (0, 0) (heap_alloc_new w _)]
    match i with
    | 0 => simpa using hy
    | k + 1 => simp at hy⟩
theorem NumsAt.take_ {w : World} {A : Option Addr} {L M : List Int} (h : NumsAt w A (L ++ M)) : NumsAt w A L := fun hp => by
  obtain ⟨b, off, e, hl, hc⟩ := h (by simp; omega)
  exact ⟨b, off, e, hl, fun i x hx => hc i x (by rw [List.getElem?_append_left]; exact hx; rcases Nat.lt_or_ge i L.length with h1 | h1; exact h1; rw [List.getElem?_eq_none h1] at hx; cases hx)⟩
theorem NumsAt.up_ {w w' : World} {A : Option Addr} {L : List Int} (h : NumsAt w A L) (hb : Below w.heap.size w w') : NumsAt w' A L := fun hp => by
  obtain ⟨b, off, e, hl, hc⟩ := h hp
  exact ⟨b, off, e, Nat.lt_of_lt_of_le hl hb.size, fun i x hx => (hb.cell (p := ⟨b, off + i, none⟩) hl).trans (hc i x hx)⟩
/-- what stays: the call in its box, the two zones -/
structure KW (w : World) (gb g1 g2 : Nat) (z1 z2 : Zn) (cs : Array Value) (W : World) : Prop where
  bl : Below w.heap.size w W
  op : Blk W gb 26 cs
  a : ZoneAt W g1 z1
  b : ZoneAt W g2 z2
section
variable {w W W' : World} {gb g1 g2 : Nat} {z1 z2 : Zn} {cs : Array Value}
theorem KW.up (h : KW w gb g1 g2 z1 z2 cs W) (hb : Below W.heap.size W W') : KW w gb g1 g2 z1 z2 cs W' :=
  ⟨h.bl.trans (hb.mono h.bl.size), Blk.below h.op hb h.op.lt, h.a.up hb, h.b.up hb⟩
theorem KW.touch (h : KW w gb g1 g2 z1 z2 cs W) {x : Nat} (ht : Touch x W W') (h0 : w.heap.size ≤ x) (hx : gb ≠ x) (h1 : g1 ≠ x) (h2 : g2 ≠ x) : KW w gb g1 g2 z1 z2 cs W' :=
  ⟨h.bl.trans (ht.below h0 h.bl.size), (ht.block gb h.op.lt hx).trans h.op, h.a.touch ht h1, h.b.touch ht h2⟩
end
/-- the block that a list starts from -/
theorem ao_start {W V : World} {lo m : Nat} {v : Value} (h : AO W lo v m) (hs : lo ≤ V.heap.size) : ∃ x, lo ≤ x ∧ (∀ b, v.ownBlock = some b → b = x) ∧ (x < W.heap.size ∨ x = V.heap.size) := by
  obtain ⟨xs, h0, h⟩ := h
  rcases h with ⟨rfl, _⟩ | ⟨g, cap, cur, rfl, hg, hh, h1⟩
  · exact ⟨V.heap.size, hs, (fun b hb => by cases hb), .inr rfl⟩
  · refine ⟨g, hg, (fun b hb => by injection hb with hb; exact hb.symm), .inl ?_⟩
    rcases Nat.lt_or_ge g W.heap.size with h2 | h2
    · exact h2
    · rw [Array.getElem?_eq_none h2] at hh; cases hh
theorem AO.up {w w' : World} {lo n : Nat} {v : Value} (h : AO w lo v n) (hb : Below w.heap.size w w') : AO w' lo v n := by
  obtain ⟨xs, h⟩ := h
  exact ⟨xs, own_keep h fun b _ hlt => hb.block b hlt⟩
theorem AO.range {w : World} {lo n c : Nat} {A : Option Addr} (h : AO w lo (.slice A n c) n) : ∀ b off, A = some ⟨b, off, none⟩ → lo ≤ b ∧ b < w.heap.size := by
  obtain ⟨xs, h0, h⟩ := h
  rcases h with ⟨hv, _⟩ | ⟨g, cap, cur, hv, hg, hh, h1⟩
  · injection hv with e; subst e; intro b off e; cases e
  · injection hv with e
    subst e
    intro b off e
    injection e with e
    injection e with e
    subst e
    refine ⟨hg, ?_⟩
    rcases Nat.lt_or_ge g w.heap.size with h2 | h2
    · exact h2
    · rw [Array.getElem?_eq_none h2] at hh; cases hh
theorem AO.touch2 {w w' : World} {lo n c x : Nat} {A : Option Addr} (h : AO w lo (.slice A n c) n) (ht : Touch x w w') (hx : Far A x) : AO w' lo (.slice A n c) n :=
  h.touch ht fun b hb => by
    cases A with
    | none => cases hb
    | some a =>
      obtain ⟨ab, ao, sp⟩ := a
      obtain ⟨xs, h0, h⟩ := h
      rcases h with ⟨hv, _⟩ | ⟨g, cap, cur, hv, hg, hh, h1⟩
      · injection hv with e; cases e
      · injection hv with e
        injection e with e
        injection e with e1 e2 e3
        subst e1; subst e2; subst e3
        injection hb with hb
        exact hb ▸ hx _ _ rfl
end Go.Proofs.Ytejcijbohnlbgaa
/- The laws' bounds: a list of bounds, each there or not, made anew. -/
namespace Go.Proofs.Ytejcijbohnlbgaa
open Go.ChangeShapes Go.WideShapes Go.ChangeAt Go.RowKit
open Zon
set_option linter.unusedVariables false
set_option maxRecDepth 100000
theorem bflat_len : ∀ L : List (Bool × Int), (L.flatMap bCells).length = L.length * 2
  | [] => rfl
  | x :: L => by rw [List.flatMap_cons, List.length_append, bflat_len L, List.length_cons]; show 2 + L.length * 2 = _; omega
theorem bflat_get : ∀ (L : List (Bool × Int)) (j : Nat) (i : Bool × Int), L[j]? = some i → ∀ k, k < 2 → (L.flatMap bCells)[j * 2 + k]? = (bCells i)[k]?
  | [], j, i, h, k, hk => by simp at h
  | x :: L, 0, i, h, k, hk => by
    simp only [List.getElem?_cons_zero, Option.some.injEq] at h
    subst h
    rw [List.flatMap_cons, List.getElem?_append_left (by show _ < 2; omega), Nat.zero_mul, Nat.zero_add]
  | x :: L, j + 1, i, h, k, hk => by
    rw [List.flatMap_cons, List.getElem?_append_right (by show 2 ≤ _; omega)]
    show (L.flatMap bCells)[(j + 1) * 2 + k - 2]? = _
    rw [show (j + 1) * 2 + k - 2 = j * 2 + k by omega]
    exact bflat_get L j i (by simpa using h) k hk
/-- bounds that a call owns -/
def OwnBd (w : World) (base : Nat) (v : Value) (L : List (Bool × Int)) : Prop := w.ownsRow base 77 2 v L.length (L.flatMap bCells)
theorem OwnBd.nil (w : World) (base : Nat) : OwnBd w base (.slice none 0 0) [] := ⟨rfl, .inl ⟨rfl, rfl⟩⟩
theorem OwnBd.form' {w : World} {base : Nat} {v : Value} {L : List (Bool × Int)} (h : OwnBd w base v L) : ∃ A m c, v = .slice A m c ∧ Hid (L.length = m) := by
  rcases h.2 with ⟨hv, hn⟩ | ⟨g, cap, cur, hv, _, _, h1, _⟩
  · exact ⟨none, _, 0, by rw [hv, ← hn], rfl⟩
  · exact ⟨_, _, _, hv, rfl⟩
theorem OwnBd.up {w w' : World} {base : Nat} {v : Value} {L : List (Bool × Int)} (h : OwnBd w base v L) (hb : Below w.heap.size w w') : OwnBd w' base v L := own_keep h fun b _ hlt => hb.block b hlt
theorem OwnBd.at_ {w : World} {base : Nat} {v : Value} {L : List (Bool × Int)} (h : OwnBd w base v L) : ∃ A c, v = .slice A L.length c ∧ BsAt w A L := by
  rcases h.2 with ⟨hv, hn⟩ | ⟨g, cap, cur, hv, hg, hh, hnc, hcm, hcs, hx⟩
  · exact ⟨none, 0, by rw [hv, hn], fun hp => by omega⟩
  · have hlt : g < w.heap.size := by
      rcases Nat.lt_or_ge g w.heap.size with h1 | h1
      · exact h1
      · rw [Array.getElem?_eq_none h1] at hh; cases hh
    have hcell : ∀ m u, (L.flatMap bCells)[m]? = some u → w.cell? ⟨g, 0 + m, none⟩ = some u := fun m u hm => by
      rw [Nat.zero_add, cell_of_row w g m cur _ (0, 0) hh]
      rw [← hx] at hm
      have h2 : (cur.toList.take (L.length * 2))[m]? = some u := hm
      rw [List.getElem?_take] at h2
      split at h2
      · simpa using h2
      · cases h2
    refine ⟨_, cap, hv, fun hp => ⟨g, 0, rfl, hlt, fun j i hi => ⟨?_, ?_⟩⟩⟩
    · have := hcell (j * 2 + 0) (.bool i.1) (by rw [bflat_get L j i hi 0 (by decide)]; rfl)
      simpa using this
    · have := hcell (j * 2 + 1) (.int .i64 i.2) (by rw [bflat_get L j i hi 1 (by decide)]; rfl)
      simpa [Nat.add_assoc] using this
theorem bd_info : (Try.prog.info? 77).map (fun i => (i.zero, i.size, i.bytes)) = some (some (.agg #[.bool false, .int .i64 0]), 2, 16) := by kernel_rfl
theorem step_append_bd {P : Program} (t e : TypeId) (he : e = 77) (hu : P.underlying t = some (.slice e)) (hinf : (P.info? e).map (fun i => (i.zero, i.size, i.bytes)) = some (some (.agg #[.bool false, .int .i64 0]), 2, 16)) (w : World) {ops : Array Oper} {o : Oper} {a : Act} {K : Act → World → Prop} {Q : Exit → Act → World → Prop} {E : Prop} (hgd : Region.wanted o (yielded ops a.tmps) = true) (s x : Operand)
    (ho : o.op = .call { callee := .builtin .append, args := #[s, x], argTypes := #[t, t] })
    (base : Nat) (v : Value) (L : List (Bool × Int)) (hs : a.eval s = v) (hown : OwnBd w base v L)
    (ad : Addr) (c : Nat) (y : Bool × Int) (hx : a.eval x = .slice (some ad) 1 c) (hr : ∀ k, k < 2 → w.cell? (ad.add k) = (bCells y)[k]?)
    (hlen : L.length + 1 ≤ 8796093022208) (hbase : base ≤ w.heap.size)
    (h : ∀ v' w', OwnBd w' base v' (L ++ [y]) → Below base w w' → K (a.put o.dst v') w') : if Region.wanted o (yielded ops a.tmps) = true then Oper.wp P o a w K Q else E := by
  subst he
  rw [if_pos hgd]
  obtain ⟨i0, hi, hz0, hz1, hz2⟩ := info_parts hinf
  refine wp_append_own_wide w s x t ho base _ i0 _ 2 16 hu hi hz0 hz1 hz2 rfl (by decide) v L.length _ hs hown ad 1 c (bCells y) hx rfl (fun j u hu => ?_) (fun u hu => ?_) (by unfold maxLen; omega) (by omega) hbase fun v' w' h1 h2 _ => ?_
  · have hj : j < 2 := by
      rcases Nat.lt_or_ge j 2 with h1 | h1
      · exact h1
      · rw [List.getElem?_eq_none (by show 2 ≤ j; exact h1)] at hu; cases hu
    rw [hr j hj, hu]
  · simp only [bCells, List.mem_cons, List.not_mem_nil, or_false] at hu
    rcases hu with rfl | rfl <;> rfl
  · refine h v' w' ?_ ((Below.refl base w).grown h2 hbase fun k hk => (World.ownsRow.lt hown k hk).1)
    unfold OwnBd
    rw [List.length_append, List.flatMap_append]
    simpa using h1
theorem take_nextb (L : List (Bool × Int)) (k : Nat) (x : Bool × Int) (h : L[k]? = some x) : L.take (k + 1) = L.take k ++ [x] := take_next L k x h
def BdS (b o : Nat) (xi : Bool) (xc : Int) (w W : World) : Prop := W.cell? ⟨b, o, none⟩ = some (.bool xi) ∧ W.cell? ⟨b, o + 1, none⟩ = some (.int .i64 xc) ∧ Below w.heap.size w W
theorem BdS.more {b o : Nat} {xi : Bool} {xc : Int} {w W W' : World} (h : BdS b o xi xc w W) (hb : Below w.heap.size W W') (hl : b < w.heap.size) : BdS b o xi xc w W' :=
  ⟨(hb.cell (p := ⟨b, o, none⟩) hl).trans h.1, (hb.cell (p := ⟨b, o + 1, none⟩) hl).trans h.2.1, h.2.2.trans hb⟩
theorem BdS.alloc {b o' : Nat} {xi : Bool} {xc : Int} {w W : World} {o : Obj} (h : BdS b o' xi xc w W) (hl : b < w.heap.size) : BdS b o' xi xc w (W.alloc o) :=
  h.more ((below_box W o).mono h.2.2.size) hl
theorem bd_one (w : World) (x : Bool) (c : Int) (t : TypeId) : ∀ k, k < 2 → (w.alloc (.cells #[.bool x, .int .i64 c] t)).cell? ((⟨w.heap.size, 0, none⟩ : Addr).add k) = (bCells (x, c))[k]? := fun k hk => by
  rw [Addr.add_lit, Nat.zero_add, cell_of_row _ w.heap.size k _ t (0, 0) (heap_alloc_new w _)]
  match k, hk with
  | 0, _ => rfl
  | 1, _ => rfl
set_option maxHeartbeats 2000000 in
theorem bounds_any (w : World) (A : Option Addr) (n c : Nat) (L : List (Bool × Int)) (hL : L.length = n) (hn : n ≤ 8796093022208) (h : BsAt w A L) :
    Calls Try.prog 19 #[.slice A n c] w fun e w' => ∃ A' c', e = .returned (.slice A' n c') ∧ BsAt w' A' L ∧ Below w.heap.size w w' := by
  have HA := Lib.hid h
  have HL := Lib.hid hL
  clear h hL
  go_enter Try.func19, Try.ntmps19
  go_wp2_with fail
  go_loopw [4, 3] (fun i v wr => ∃ k : Nat, k ≤ n ∧ i = .int .i64 k ∧ OwnBd wr w.heap.size v (L.take k) ∧ Below w.heap.size w wr) (fun i _ _ => (n - intOf i).toNat)
  case atStart => exact ⟨0, Nat.zero_le _, rfl, OwnBd.nil _ _, Below.refl _ _⟩
  case round =>
    obtain ⟨k, hk, rfl, hO, hB⟩ := hrel
    by_cases hlt : k < n
    · have hlt' : (k : Int) < n := by omega
      have hk0 : (0 : Int) ≤ k := by omega
      obtain ⟨b, off, rfl, hbl, hcell⟩ := HA.out (by have := HL.out; omega)
      obtain ⟨x, hx⟩ : ∃ x, L[k]? = some x := ⟨L[k]'(by have := HL.out; omega), List.getElem?_eq_getElem _⟩
      obtain ⟨y0, y1⟩ := hcell k x hx
      have x0 := (hB.cell (p := ⟨b, off + k * 2, none⟩) hbl).trans y0
      have x1 := (hB.cell (p := ⟨b, off + k * 2 + 1, none⟩) hbl).trans y1
      have HE := Lib.hid (take_nextb L k x hx)
      have HLL := Lib.hid (show (L.take k).length + 1 ≤ 8796093022208 by rw [List.length_take]; omega)
      obtain ⟨xi, xc⟩ := x
      simp only at x0 x1
      have HO := Lib.hid hO
      have HB := Lib.hid hB
      obtain ⟨A3, m, c3, rfl, HM⟩ := hO.form'
      have HBL0 := Lib.hid hbl
      clear hO hB hx hbl hlt y0 y1 hcell
      generalize L.take k = T at *
      go_upto_region 5 with (fail)
      have HBd := Lib.hid (show Below w.heap.size w wr.drew from below_drewN' HB.out 1)
      have HOd := Lib.hid (show OwnBd wr.drew w.heap.size (.slice A3 m c3) T from HO.out)
      have HS0 := Lib.hid (show BdS b (off + k * 2) xi xc w wr.drew from ⟨x0, x1, HBd.out⟩)
      have HSA := Lib.hid (fun o => HS0.out.alloc (o := o) HBL0.out)
      have HLE := Lib.hid HLL.out
      have HBS := Lib.hid (show ∀ o, w.heap.size ≤ (wr.drew.alloc o).heap.size from fun o => Nat.le_trans HBd.out.size (below_box wr.drew o).size)
      clear HB HO HLL
      go_region_held3 (fun W => W.cell? ⟨b, off + k * 2, none⟩ = some (.bool xi) ∧ W.cell? ⟨b, off + k * 2 + 1, none⟩ = some (.int .i64 xc) ∧ Below w.heap.size w W)
        (first | exact HS0.out | exact HSA.out _ | exact hS')
        ((refine step_append_bd 50 77 rfl Try.underlying50 bd_info _ rfl (.tmp 11) (.tmp 23) rfl w.heap.size _ _ rfl (HOd.out.up (below_box wr.drew _)) _ _ (xi, xc) rfl (bd_one wr.drew _ _ _) HLE.out (HBS.out _) ?_; intro v' w' hown' hB'; have hS' := BdS.more (HSA.out _) hB' HBL0.out))
      have HW := Lib.hid hown'
      have HBW := Lib.hid hS'.2.2
      clear hown' hB' hS' x0 x1
      go_wp2_with fail
      go_roundw
      case rel => exact ⟨k + 1, by omega, by go_num, by rw [HE.out]; exact HW.out, HBW.out⟩
      case measure => simp [intOf]; omega
    · obtain rfl : k = n := by omega
      have hjn : decide ((k : Int) < k) = false := decide_eq_false (by omega)
      rw [List.take_of_length_le (by rw [HL.out]; exact Nat.le_refl _)] at hO
      obtain ⟨A', c', rfl, hat⟩ := hO.at_
      rw [HL.out]
      go_wp2_with fail
      go_ret
      exact ⟨A', c', rfl, hat, hB⟩
end Go.Proofs.Ytejcijbohnlbgaa
/- ZoneKept: the walk of the law. Written by mkzkept.py. -/
namespace Go.Proofs.Ytejcijbohnlbgaa
open Go.ChangeShapes Go.WideShapes Go.ChangeAt Go.RowKit
open Zon
set_option linter.unusedVariables false
set_option linter.unusedSimpArgs false
set_option maxRecDepth 100000
theorem okZ_top : OkZ (some topT) := fun M e => by injection e with e; exact e ▸ okT_top
theorem diagZ_top : DiagZ (some topT) := fun M e => by injection e with e; exact e ▸ diag_top
theorem room_head {w : World} {A : Option Addr} {L : List Con} (h : ConsAt w A (roomL L 70)) : ConsAt w A L := by
  have := consAt_tk (k := L.length) h
  rwa [roomL_take] at this
theorem nums_own2 {w : World} {base : Nat} {v : Value} {L : List Int} (h : OwnN w base v L) : ∃ A c, v = .slice A L.length c ∧ L.length ≤ c ∧ NumsAt w A L := by
  obtain ⟨A, c, rfl, hA⟩ := nums_own h
  rcases h.2 with ⟨hv, hn⟩ | ⟨g, cap, cur, hv, _, _, h1, _⟩
  · exact ⟨A, c, rfl, by omega, hA⟩
  · injection hv with _ _ e
    exact ⟨A, c, rfl, by omega, hA⟩
theorem made_any {w w' : World} {E : Int} {z : Zn} {e : Ending} (h : MadeE w E z e w') : Some_ w e w' := by
  rcases h with ⟨_, g, h1, _, _, h2⟩ | ⟨_, h1, h2⟩
  · exact ⟨_, h1, h2⟩
  · exact ⟨_, h1, h2⟩
theorem ownC_range {e : TypeId} {w : World} {lo n c : Nat} {A : Option Addr} {L : List Con} (h : OwnC e w lo (.slice A n c) L) : ∀ b off, A = some ⟨b, off, none⟩ → lo ≤ b ∧ b < w.heap.size := by
  rcases h.2 with ⟨hv, _⟩ | ⟨g, cap, cur, hv, hg, hh, h1⟩
  · injection hv with e; subst e; intro b off e; cases e
  · injection hv with e
    subst e
    intro b off e
    injection e with e
    injection e with e
    subst e
    refine ⟨hg, ?_⟩
    rcases Nat.lt_or_ge g w.heap.size with h2 | h2
    · exact h2
    · rw [Array.getElem?_eq_none h2] at hh; cases hh
set_option maxHeartbeats 8000000 in
theorem zoneKept_no (w : World) (A0 : Option Addr) (n0 c0 : Nat) (L0 : List Con) (i0 : ConIn w A0 n0 c0 L0) (A1 : Option Addr) (n1 c1 : Nat) (L1 : List Int) (i1 : NumIn w A1 n1 c1 L1) (k0 k1 k2 X Y C : Int) (hX : I64 X) (A6 A7 A8 A9 : Option Addr) (n6 c6 n7 c7 n8 c8 n9 c9 : Nat) (L8 : List (Bool × Int)) (l8 : L8.length = n8) (i8 : BsAt w A8 L8) (L9 : List (Bool × Int)) (l9 : L9.length = n9) (i9 : BsAt w A9 L9) (hn : n8 ≤ 8796093022208 ∧ n9 ≤ 8796093022208) (E0 : wrongL L0 ≠ 0) :
    Calls Try.prog 3 #[.slice A0 n0 c0, .slice A1 n1 c1, .agg #[.int .i64 k0, .int .i64 k1, .int .i64 k2, .int .i64 X, .int .i64 Y, .int .i64 C, .slice A6 n6 c6, .slice A7 n7 c7, .slice A8 n8 c8, .slice A9 n9 c9]] w (True_ w) := by
  have I0 := Lib.hid i0
  have I1 := Lib.hid i1
  have HX := Lib.hid hX
  have HE := Lib.hid E0
  have L8L := Lib.hid l8
  have L9L := Lib.hid l9
  have I8 := Lib.hid i8
  have I9 := Lib.hid i9
  have HN8 := Lib.hid hn.1
  have HN9 := Lib.hid hn.2
  clear i0 i1 hX l8 l9 i8 i9 hn E0
  obtain ⟨w1, hw1⟩ : ∃ w1, w1 = w.alloc (.cells #[.int .i64 k0, .int .i64 k1, .int .i64 k2, .int .i64 X, .int .i64 Y, .int .i64 C, .slice A6 n6 c6, .slice A7 n7 c7, .slice A8 n8 c8, .slice A9 n9 c9] 26) := ⟨_, rfl⟩
  have HOP := Lib.hid (show Blk w1 w.heap.size 26 #[.int .i64 k0, .int .i64 k1, .int .i64 k2, .int .i64 X, .int .i64 Y, .int .i64 C, .slice A6 n6 c6, .slice A7 n7 c7, .slice A8 n8 c8, .slice A9 n9 c9] by rw [hw1]; exact Blk.new w _ _)
  have HB1 := Lib.hid (show Below w.heap.size w w1 by rw [hw1]; exact below_box w _)
  have HW1 := Lib.hid hw1
  clear hw1
  go_enter Try.func3, Try.ntmps3
  go_upto_region 1 with (fail)
  rw [← HW1.out]
  clear HW1
  obtain ⟨gb, hgb⟩ : ∃ gb, gb = w.heap.size := ⟨_, rfl⟩
  rw [← hgb] at HOP ⊢
  have HGB := Lib.hid (show w.heap.size ≤ gb by omega)
  clear hgb
  go_wp2_with fail
  go_at_call 6
  refine (refWrong_any _ A0 n0 c0 L0 I0.out.len (by have := I0.out.reach; omega) (I0.out.at_.below HB1.out)).mono ?_
  rintro e W1 ⟨rfl, rfl⟩
  go_wp2_with fail
  go_at_call 7
  refine (roomy_any _ A0 n0 c0 L0 I0.out.len (by have := I0.out.reach; omega) (I0.out.at_.below HB1.out)).mono ?_
  rintro e W2 ⟨Ar, cr, rfl, hOr, hB⟩
  have HB2 := Lib.hid (HB1.out.trans (hB.mono HB1.out.size))
  have HOP2 := Lib.hid (Blk.below HOP.out hB HOP.out.lt)
  have HS2 := Lib.hid (show w1.heap.size ≤ W2.heap.size from hB.size)
  have HGB2 := Lib.hid (show gb < w1.heap.size from HOP.out.lt)
  obtain ⟨A', c', eA, hcr, hCr, -⟩ := hOr.consAt
  rw [roomL_len, I0.out.len] at eA hcr
  injection eA with e1 e2 e3
  subst e1; subst e3
  clear e2
  have HCR := Lib.hid hCr
  have HAO := Lib.hid (show AO W2 w1.heap.size (.slice Ar (n0 + 70) cr) (n0 + 70) by have := hOr.ao; rw [roomL_len, I0.out.len] at this; exact this)
  have HCL := Lib.hid hcr
  clear hB hOr hCr hcr HOP
  go_wp2_with fail
  go_at_call 8
  refine (New_law _).mono ?_
  rintro e W3 ⟨g0, rfl, hg, hz, hB⟩
  have HZ0 := Lib.hid hz
  have HB3 := Lib.hid (HB2.out.trans (hB.mono HB2.out.size))
  have HOP3 := Lib.hid (Blk.below HOP2.out hB HOP2.out.lt)
  have HCR3 := Lib.hid (HCR.out.below hB)
  have HAO3 := Lib.hid (HAO.out.up hB)
  clear hg hz hB HOP2 HCR HAO
  go_wp2_with fail
  go_at_call 9
  refine (With_any _ g0 (some topT) Ar n0 cr L0 HZ0.out I0.out.len (by have := I0.out.reach; omega) (room_head HCR3.out)).mono ?_
  intro e W4 hM
  obtain ⟨rfl, hB⟩ := hM.no HE.out
  have HB4 := Lib.hid (HB3.out.trans (hB.mono HB3.out.size))
  have HCR4 := Lib.hid (HCR3.out.below hB)
  clear hM hB HOP3 HZ0 HAO3 HCR3
  go_wp2_with fail
  go_at_call 10
  refine (Close_any _ Ar n0 cr L0 I0.out.len (by have := I0.out.reach; omega) (room_head HCR4.out)).mono ?_
  intro e W5 hM
  obtain ⟨rfl, hB⟩ := hM.no HE.out
  have HB5 := Lib.hid (HB4.out.trans (hB.mono HB4.out.size))
  have HCR5 := Lib.hid (HCR4.out.below hB)
  clear hM hB HCR4
  have hne : wrongL L0 ≠ 0 := HE.out
  have hne2 : decide (wrongL L0 = 0) = false := decide_eq_false hne
  generalize wrongL L0 = E at *
  have HLF := Lib.hid (fun W (hW : Below W5.heap.size W5 W) => left_any W Ar A0 n0 cr c0 L0 I0.out.len (by have := I0.out.reach; omega) HCL.out (HCR5.out.below hW) (I0.out.at_.below (HB5.out.trans (hW.mono HB5.out.size))))
  go_wp2_with fail
  go_at_call 11
  refine (HLF.out _ (Below.refl _ _)).mono ?_
  rintro e W6 ⟨rfl, hB⟩
  have HB6 := Lib.hid (HB5.out.trans (hB.mono HB5.out.size))
  clear hB
  go_wp2_with fail
  go_at_call 12
  refine (awake_any _).mono ?_
  rintro e W7 ⟨rfl, hB⟩
  have HB7 := Lib.hid (HB6.out.trans (hB.mono HB6.out.size))
  clear hB
  go_wp2_with fail
  go_ret
  exact ⟨rfl, HB7.out⟩
set_option maxHeartbeats 8000000 in
theorem zoneKept_yes (w : World) (A0 : Option Addr) (n0 c0 : Nat) (L0 : List Con) (i0 : ConIn w A0 n0 c0 L0) (A1 : Option Addr) (n1 c1 : Nat) (L1 : List Int) (i1 : NumIn w A1 n1 c1 L1) (k0 k1 k2 X Y C : Int) (hX : I64 X) (A6 A7 A8 A9 : Option Addr) (n6 c6 n7 c7 n8 c8 n9 c9 : Nat) (L8 : List (Bool × Int)) (l8 : L8.length = n8) (i8 : BsAt w A8 L8) (L9 : List (Bool × Int)) (l9 : L9.length = n9) (i9 : BsAt w A9 L9) (hn : n8 ≤ 8796093022208 ∧ n9 ≤ 8796093022208) (E0 : wrongL L0 = 0) :
    Calls Try.prog 3 #[.slice A0 n0 c0, .slice A1 n1 c1, .agg #[.int .i64 k0, .int .i64 k1, .int .i64 k2, .int .i64 X, .int .i64 Y, .int .i64 C, .slice A6 n6 c6, .slice A7 n7 c7, .slice A8 n8 c8, .slice A9 n9 c9]] w (True_ w) := by
  have I0 := Lib.hid i0
  have I1 := Lib.hid i1
  have HX := Lib.hid hX
  have HE := Lib.hid E0
  have L8L := Lib.hid l8
  have L9L := Lib.hid l9
  have I8 := Lib.hid i8
  have I9 := Lib.hid i9
  have HN8 := Lib.hid hn.1
  have HN9 := Lib.hid hn.2
  clear i0 i1 hX l8 l9 i8 i9 hn E0
  obtain ⟨w1, hw1⟩ : ∃ w1, w1 = w.alloc (.cells #[.int .i64 k0, .int .i64 k1, .int .i64 k2, .int .i64 X, .int .i64 Y, .int .i64 C, .slice A6 n6 c6, .slice A7 n7 c7, .slice A8 n8 c8, .slice A9 n9 c9] 26) := ⟨_, rfl⟩
  have HOP := Lib.hid (show Blk w1 w.heap.size 26 #[.int .i64 k0, .int .i64 k1, .int .i64 k2, .int .i64 X, .int .i64 Y, .int .i64 C, .slice A6 n6 c6, .slice A7 n7 c7, .slice A8 n8 c8, .slice A9 n9 c9] by rw [hw1]; exact Blk.new w _ _)
  have HB1 := Lib.hid (show Below w.heap.size w w1 by rw [hw1]; exact below_box w _)
  have HW1 := Lib.hid hw1
  clear hw1
  go_enter Try.func3, Try.ntmps3
  go_upto_region 1 with (fail)
  rw [← HW1.out]
  clear HW1
  obtain ⟨gb, hgb⟩ : ∃ gb, gb = w.heap.size := ⟨_, rfl⟩
  rw [← hgb] at HOP ⊢
  have HGB := Lib.hid (show w.heap.size ≤ gb by omega)
  clear hgb
  go_wp2_with fail
  go_at_call 6
  refine (refWrong_any _ A0 n0 c0 L0 I0.out.len (by have := I0.out.reach; omega) (I0.out.at_.below HB1.out)).mono ?_
  rintro e W1 ⟨rfl, rfl⟩
  rw [HE.out]
  go_wp2_with fail
  go_at_call 7
  refine (roomy_any _ A0 n0 c0 L0 I0.out.len (by have := I0.out.reach; omega) (I0.out.at_.below HB1.out)).mono ?_
  rintro e W2 ⟨Ar, cr, rfl, hOr, hB⟩
  have HB2 := Lib.hid (HB1.out.trans (hB.mono HB1.out.size))
  have HOP2 := Lib.hid (Blk.below HOP.out hB HOP.out.lt)
  have HS2 := Lib.hid (show w1.heap.size ≤ W2.heap.size from hB.size)
  have HGB2 := Lib.hid (show gb < w1.heap.size from HOP.out.lt)
  obtain ⟨A', c', eA, hcr, hCr, -⟩ := hOr.consAt
  rw [roomL_len, I0.out.len] at eA hcr
  injection eA with e1 e2 e3
  subst e1; subst e3
  clear e2
  have HCR := Lib.hid hCr
  have HAO := Lib.hid (show AO W2 w1.heap.size (.slice Ar (n0 + 70) cr) (n0 + 70) by have := hOr.ao; rw [roomL_len, I0.out.len] at this; exact this)
  have HCL := Lib.hid hcr
  clear hB hOr hCr hcr HOP
  go_wp2_with fail
  go_at_call 8
  refine (New_law _).mono ?_
  rintro e W3 ⟨g0, rfl, hg, hz, hB⟩
  have HZ0 := Lib.hid hz
  have HB3 := Lib.hid (HB2.out.trans (hB.mono HB2.out.size))
  have HOP3 := Lib.hid (Blk.below HOP2.out hB HOP2.out.lt)
  have HCR3 := Lib.hid (HCR.out.below hB)
  have HAO3 := Lib.hid (HAO.out.up hB)
  clear hg hz hB HOP2 HCR HAO
  obtain ⟨z1, hz1⟩ : ∃ z, z = withZ (some topT) L0 := ⟨_, rfl⟩
  obtain ⟨z2, hz2⟩ : ∃ z, z = closeZ L0 := ⟨_, rfl⟩
  have HOK := Lib.hid (show OkZ z1 by rw [hz1]; exact okZ_with okZ_top L0)
  have HRW := Lib.hid (fun W (hW : ConsAt W A0 L0) => show Calls Try.prog 13 #[rvV (rv (some topT)), .slice A0 n0 c0] W (fun e w' => e = .returned (rvV (rv z1)) ∧ Below W.heap.size W w') by rw [hz1]; exact refWith_any W (some topT) A0 n0 c0 L0 okZ_top diagZ_top I0.out.len (by have := I0.out.reach; omega) hW HE.out)
  go_wp2_with fail
  go_at_call 9
  refine (With_any _ g0 (some topT) Ar n0 cr L0 HZ0.out I0.out.len (by have := I0.out.reach; omega) (room_head HCR3.out)).mono ?_
  intro e W4 hM
  obtain ⟨g1, rfl, hg1, hz, hB⟩ := hM.yes HE.out
  rw [← hz1] at hz
  have HZ1 := Lib.hid hz
  have HG1 := Lib.hid hg1
  have HB4 := Lib.hid (HB3.out.trans (hB.mono HB3.out.size))
  have HOP4 := Lib.hid (Blk.below HOP3.out hB HOP3.out.lt)
  have HCR4 := Lib.hid (HCR3.out.below hB)
  have HAO4 := Lib.hid (HAO3.out.up hB)
  have HX4 := Lib.hid HAO3.out.range
  have HS4 := Lib.hid (show W3.heap.size ≤ W4.heap.size from hB.size)
  clear hM hB hz hg1 HOP3 HZ0 HAO3 HCR3
  go_wp2_with fail
  go_at_call 10
  refine (Close_any _ Ar n0 cr L0 I0.out.len (by have := I0.out.reach; omega) (room_head HCR4.out)).mono ?_
  intro e W5 hM
  obtain ⟨g2, rfl, hg2, hz, hB⟩ := hM.yes HE.out
  rw [← hz2] at hz
  have HG2 := Lib.hid (show W3.heap.size ≤ g2 from Nat.le_trans HS4.out hg2)
  have HK5 := Lib.hid (show KW w gb g1 g2 z1 z2 #[.int .i64 k0, .int .i64 k1, .int .i64 k2, .int .i64 X, .int .i64 Y, .int .i64 C, .slice A6 n6 c6, .slice A7 n7 c7, .slice A8 n8 c8, .slice A9 n9 c9] W5 from ⟨HB4.out.trans (hB.mono HB4.out.size), Blk.below HOP4.out hB HOP4.out.lt, HZ1.out.up hB, hz⟩)
  have HCR5 := Lib.hid (HCR4.out.below hB)
  have HAO5 := Lib.hid (HAO4.out.up hB)
  clear hM hB hz hg2 HOP4 HZ1 HAO4 HCR4 HB4 hz1 hz2
  have HLF := Lib.hid (fun W (hW : Below W5.heap.size W5 W) => left_any W Ar A0 n0 cr c0 L0 I0.out.len (by have := I0.out.reach; omega) HCL.out (HCR5.out.below hW) (I0.out.at_.below (HK5.out.bl.trans (hW.mono HK5.out.bl.size))))
  go_wp2_with fail
  go_at_call 11
  refine (HLF.out _ (Below.refl _ _)).mono ?_
  rintro e W6 ⟨rfl, hB⟩
  have HK6 := Lib.hid (HK5.out.up hB)
  have HAO6 := Lib.hid (HAO5.out.up hB)
  clear hB HCR5 HLF HAO5 HK5
  go_wp2_with fail
  go_at_call 14
  refine (Top_any _).mono ?_
  rintro e W7 ⟨rfl, hB⟩
  have HK7 := Lib.hid (HK6.out.up hB)
  have HAO7 := Lib.hid (HAO6.out.up hB)
  clear hB HK6 HAO6
  obtain ⟨V0, hV0⟩ : ∃ V, V = rvV (rv (some topT)) := ⟨_, rfl⟩
  rw [show rvV (false, rT topT) = V0 from hV0.symm]
  rw [← hV0] at HRW
  clear hV0
  obtain ⟨zn, hzn⟩ : ∃ zn, zn = rv z1 := ⟨_, rfl⟩
  have HIS := Lib.hid (fun W (hW : ZoneAt W g1 z1) => is_any W g1 z1 hW)
  have HRC := Lib.hid (fun W => refCons_any W z1 HOK.out)
  simp only [← hzn] at HRW HIS HRC
  clear hzn
  go_wp2_with fail
  go_at_call 13
  refine (HRW.out _ (I0.out.at_.below HK7.out.bl)).mono ?_
  rintro e W8 ⟨rfl, hB⟩
  have HK8 := Lib.hid (HK7.out.up hB)
  have HAO8 := Lib.hid (HAO7.out.up hB)
  clear hB HK7 HAO7 HRW
  go_upto_region 10 with (first
    | (refine wpList_alloc_seg rfl 41 rfl 3601 zr zeroZ ?_; intro w9 hb9 hB9 hs9)
    | (refine wpList_store_all rfl 41 _ _ rfl W8.heap.size 41 3601 _ (zc zn.1 zn.2) rfl rfl hb9 sizeZ (rz_one _ _) ?_; intro w9s hb9s hT9 hs9s))
  have HK9 := Lib.hid (show KW w gb g1 g2 z1 z2 _ w9s from (HK8.out.up hB9).touch hT9 HK8.out.bl.size (Nat.ne_of_lt HK8.out.op.lt) (Nat.ne_of_lt HK8.out.a.lt) (Nat.ne_of_lt HK8.out.b.lt))
  have HAO9 := Lib.hid ((HAO8.out.up hB9).touch2 hT9 fun b off e => Nat.ne_of_lt (HAO8.out.range b off e).2)
  obtain ⟨gz, hgz⟩ : ∃ g, g = W8.heap.size := ⟨_, rfl⟩
  rw [← hgz] at hb9s ⊢
  have HF9 := Lib.hid hb9s
  have HXr := Lib.hid (show ∀ b off, Ar = some ⟨b, off, none⟩ → w.heap.size ≤ b ∧ gb ≠ b ∧ g1 ≠ b ∧ g2 ≠ b ∧ gz ≠ b from fun b off e => by
    have h1 := HX4.out b off e
    have h2 := HGB2.out
    have h3 := HG1.out
    have h4 := HG2.out
    have h5 := HB1.out.size
    have h6 := HAO8.out.range b off e
    omega)
  clear HK8 HAO8 hb9 hB9 hs9 hb9s hT9 hs9s hgz
  obtain ⟨xr, fr, eA, hx1, -, -, hFr⟩ := HAO9.out.fb (by omega)
  subst eA
  obtain ⟨xw, xgb, xg1, xg2, xgz⟩ := HXr.out xr 0 rfl
  have HFR := Lib.hid hFr
  have HXW := Lib.hid xw
  have HXB := Lib.hid xgb
  have HX1 := Lib.hid xg1
  have HX2 := Lib.hid xg2
  have HXZ := Lib.hid xgz
  clear HXr hFr hx1 HAO9 xw xgb xg1 xg2 xgz HX4
  obtain ⟨N, hN⟩ : ∃ N, N = n0 + 70 := ⟨_, rfl⟩
  have HNC := Lib.hid (show N ≤ cr by rw [hN]; exact HCL.out)
  have hNb : N ≤ 6000000000100 := by have := I0.out.reach; omega
  rw [← hN]
  clear hN HCL
  go_wp2_with fail
  go_loopw [15] (fun i wr => ∃ k : Nat, k ≤ N ∧ i = .int .i64 k ∧ (∃ f', FB wr xr 45 (cr * 3) f') ∧ Touch xr w9s wr) (fun i _ => (N - intOf i).toNat)
  case atStart => exact ⟨0, by omega, rfl, ⟨_, HFR.out⟩, Touch.refl _ _⟩
  case round =>
    obtain ⟨k, hk, rfl, ⟨f', hF⟩, hT⟩ := hrel
    have hk0 : (0 : Int) ≤ k := by omega
    by_cases hlt : k < N
    · have hlt' : (k : Int) < N := by omega
      have HFx := Lib.hid hF
      have HT := Lib.hid hT
      have HKT := Lib.hid hlt
      clear hF hT hlt
      go_wp2_with (refine wpList_store_seg rfl 45 _ _ rfl xr (k * 3) 45 (cr * 3) 3 f' (fun q => if q = 0 then .int .i64 2 else if q = 1 then .int .i64 0 else .int .i64 (-5)) rfl (congrArg Value.agg (three_arr _ _ _)) HFx.out (by have := HKT.out; have := HNC.out; omega) sizeCn (fun q _ => by show (if q = 0 then Value.int .i64 2 else if q = 1 then .int .i64 0 else .int .i64 (-5)).oneCell' = true; split; rfl; split <;> rfl) ?_; intro W8 hb8 hT8 hs8)
      go_roundw
      case rel => exact ⟨k + 1, by have := HKT.out; omega, by go_num, ⟨_, hb8⟩, HT.out.trans hT8⟩
      case measure => simp [intOf]; omega
    · have hjn : decide ((k : Int) < N) = false := decide_eq_false (by omega)
      have hjn2 : decide (k < N) = false := decide_eq_false hlt
      have HK10 := Lib.hid (HK9.out.touch hT HXW.out HXB.out HX1.out HX2.out)
      have HF10 := Lib.hid (HF9.out.touch hT HXZ.out)
      clear hF hT HK9 HF9 HFR
      go_wp2_with fail
      go_at_call 15
      refine (copyInts_own _ A1 n1 c1 L1 ⟨I1.out.len, I1.out.reach, I1.out.rng, I1.out.at_.up_ HK10.out.bl, I1.out.cap⟩).mono ?_
      rintro e W11 ⟨Ag, cg, rfl, hO, hB⟩
      have HO11 := Lib.hid hO
      have HB11 := Lib.hid hB
      clear hB hO
      have HBX := Lib.hid (fun o => below_box W11 o)
      have HLL := Lib.hid (show L1.length + 1 ≤ 20000000000000 by have := I1.out.len; have := I1.out.reach; omega)
      have hv0 : (0 : Int) ≤ n1 := by omega
      have HLN := Lib.hid (show (L1 ++ [(-3 : Int)]).length = n1 + 1 by rw [List.length_append, I1.out.len]; rfl)
      go_upto_region 15 with (at_builtin; (refine nums_push _ rfl (.tmp 80) (.tmp 81) rfl wr.heap.size _ L1 rfl (HO11.out.up (HBX.out _)) _ 1 _ [-3] rfl rfl (nums_one W11 _ _) HLL.out (Nat.le_trans HB11.out.size (HBX.out _).size) ?_; intro v' W12 hO12 hB12))
      obtain ⟨A2, c2, rfl, hc2, hN2⟩ := nums_own2 hO12
      rw [HLN.out] at hc2 ⊢
      have hb12 := HB11.out.trans (((HBX.out _).mono HB11.out.size).trans hB12)
      have HK12 := Lib.hid (HK10.out.up hb12)
      have HF12 := Lib.hid (HF10.out.up hb12)
      have HG12 := Lib.hid hN2
      have hc3 : n1 ≤ c2 := by omega
      have hc4 : (n1 : Int) ≤ c2 := by omega
      clear hO12 hB12 hN2 hb12 hc2 HK10 HF10 HO11 HB11 HBX HLL
      go_wp2_with fail
      go_at_call 16
      refine (Forget_any _ g1 z1 A2 n1 c2 L1 HK12.out.a I1.out.len (by have := I1.out.reach; omega) HG12.out.take_).mono ?_
      rintro e W14 ⟨gf, rfl, -, -, hB⟩
      have HK14 := Lib.hid (HK12.out.up hB)
      have HF14 := Lib.hid (HF12.out.up hB)
      have HG14 := Lib.hid (HG12.out.up_ hB)
      clear hB HK12 HF12 HG12
      have x3 : W14.cell? ⟨gb, 3, none⟩ = some (.int .i64 X) := Blk.cell HK14.out.op 3
      have x4 : W14.cell? ⟨gb, 4, none⟩ = some (.int .i64 Y) := Blk.cell HK14.out.op 4
      have x5 : W14.cell? ⟨gb, 5, none⟩ = some (.int .i64 C) := Blk.cell HK14.out.op 5
      go_wp2_with fail
      go_at_call 17
      refine (AssignX_any _ g1 z1 X Y C HK14.out.a).mono ?_
      rintro e W16 ⟨va, rfl, hB⟩
      have HK16 := Lib.hid (HK14.out.up hB)
      have HF16 := Lib.hid (HF14.out.up hB)
      have HG16 := Lib.hid (HG14.out.up_ hB)
      clear hB HK14 HF14 HG14 x3 x4 x5
      go_upto_region 17 with (fail)
      refine wp_region_held_drew (S := fun W => Blk W gb 26 #[.int .i64 k0, .int .i64 k1, .int .i64 k2, .int .i64 X, .int .i64 Y, .int .i64 C, .slice A6 n6 c6, .slice A7 n7 c7, .slice A8 n8 c8, .slice A9 n9 c9]) (by kernel_rfl) HK16.out.op (fun hHeld => ?_)
      have HD := Lib.hid (show Below W16.heap.size W16 W16.drew from below_drewN' (Below.refl _ _) 1)
      have HKd := Lib.hid (show KW w gb g1 g2 z1 z2 _ W16.drew from HK16.out.up HD.out)
      have HFd := Lib.hid (show FB W16.drew gz _ 3601 (zc zn.1 zn.2) from HF16.out.up HD.out)
      have HGd := Lib.hid (show NumsAt W16.drew A2 _ from HG16.out.up_ HD.out)
      clear HD HK16 HF16 HG16
      refine wpAnyH_take (i := 0) (oi := _) (v := .pointer (some ⟨g1, 0, none⟩)) rfl (by kernel_rfl) (by kernel_rfl) (by kernel_rfl) (fun _ _ _ h => h) (Or.inl ⟨by rfl, ?_⟩) (by assumption) ?_
      · intro w hSw
        go_simp
      try simp only [Act.put, List.setIfInBounds_toArray, List.set_cons_zero, List.set_cons_succ]
      refine wpAnyH_take (i := 1) (oi := _) (v := .pointer (some ⟨gb, 3, none⟩)) rfl (by kernel_rfl) (by kernel_rfl) (by kernel_rfl) (fun _ _ _ h => h) (Or.inl ⟨by rfl, ?_⟩) (by assumption) ?_
      · intro w hSw
        go_simp
      try simp only [Act.put, List.setIfInBounds_toArray, List.set_cons_zero, List.set_cons_succ]
      refine wpAnyH_take (i := 2) (oi := _) (v := .int .i64 X) rfl (by kernel_rfl) (by kernel_rfl) (by kernel_rfl) (fun _ _ _ h => h) (Or.inl ⟨by rfl, ?_⟩) (by assumption) ?_
      · intro w hSw
        have c : w.cell? ⟨gb, 3, none⟩ = some (.int .i64 X) := Blk.cell hSw 3
        go_simp
      try simp only [Act.put, List.setIfInBounds_toArray, List.set_cons_zero, List.set_cons_succ]
      refine wpAnyH_take (i := 3) (oi := _) (v := .pointer (some ⟨gb, 8, none⟩)) rfl (by kernel_rfl) (by kernel_rfl) (by kernel_rfl) (fun _ _ _ h => h) (Or.inl ⟨by rfl, ?_⟩) (by assumption) ?_
      · intro w hSw
        go_simp
      try simp only [Act.put, List.setIfInBounds_toArray, List.set_cons_zero, List.set_cons_succ]
      refine wpAnyH_take (i := 4) (oi := _) (v := .slice A8 n8 c8) rfl (by kernel_rfl) (by kernel_rfl) (by kernel_rfl) (fun _ _ _ h => h) (Or.inl ⟨by rfl, ?_⟩) (by assumption) ?_
      · intro w hSw
        have c : w.cell? ⟨gb, 8, none⟩ = some (.slice A8 n8 c8) := Blk.cell hSw 8
        go_simp
      try simp only [Act.put, List.setIfInBounds_toArray, List.set_cons_zero, List.set_cons_succ]
      refine wpAnyH_take (i := 6) (oi := _) (v := .pointer (some ⟨gb, 9, none⟩)) rfl (by kernel_rfl) (by kernel_rfl) (by kernel_rfl) (fun _ _ _ h => h) (Or.inl ⟨by rfl, ?_⟩) (by assumption) ?_
      · intro w hSw
        go_simp
      try simp only [Act.put, List.setIfInBounds_toArray, List.set_cons_zero, List.set_cons_succ]
      refine wpAnyH_take (i := 7) (oi := _) (v := .slice A9 n9 c9) rfl (by kernel_rfl) (by kernel_rfl) (by kernel_rfl) (fun _ _ _ h => h) (Or.inl ⟨by rfl, ?_⟩) (by assumption) ?_
      · intro w hSw
        have c : w.cell? ⟨gb, 9, none⟩ = some (.slice A9 n9 c9) := Blk.cell hSw 9
        go_simp
      try simp only [Act.put, List.setIfInBounds_toArray, List.set_cons_zero, List.set_cons_succ]
      clear hHeld
      refine wpAnyH_ready (rs := [5]) (by kernel_rfl) (by simp) ?_
      refine AllReadyH.cons rfl (fun K hK => ?_) AllReadyH.nil
      go_simp
      go_at_call 19
      refine (bounds_any _ A8 n8 c8 L8 L8L.out HN8.out (I8.out.below HKd.out.bl)).mono ?_
      rintro e y1 ⟨Bu, ku, rfl, hBu, hB⟩
      have HKa := Lib.hid (HKd.out.up hB)
      have HUa := Lib.hid hBu
      have HFa := Lib.hid (HFd.out.up hB)
      have HGa := Lib.hid (HGd.out.up_ hB)
      clear hB hBu HKd HFd HGd
      refine hK.out _ _ HKa.out.op (fun hHeld => ?_)
      clear hK K
      try simp only [Act.put, List.setIfInBounds_toArray, List.set_cons_zero, List.set_cons_succ]
      clear hHeld
      refine wpAnyH_ready (rs := [8]) (by kernel_rfl) (by simp) ?_
      refine AllReadyH.cons rfl (fun K hK => ?_) AllReadyH.nil
      go_simp
      go_at_call 19
      refine (bounds_any _ A9 n9 c9 L9 L9L.out HN9.out (I9.out.below HKa.out.bl)).mono ?_
      rintro e y2 ⟨Bd, kd, rfl, hBd, hB⟩
      have HKb := Lib.hid (HKa.out.up hB)
      have HUb := Lib.hid (HUa.out.below hB)
      have HDb := Lib.hid hBd
      have HFb := Lib.hid (HFa.out.up hB)
      have HGb := Lib.hid (HGa.out.up_ hB)
      clear hB hBd HKa HUa HFa HGa
      refine hK.out _ _ HKb.out.op (fun hHeld => ?_)
      clear hK K
      try simp only [Act.put, List.setIfInBounds_toArray, List.set_cons_zero, List.set_cons_succ]
      clear hHeld
      refine wpAnyH_ready (rs := [9]) (by kernel_rfl) (by simp) ?_
      refine AllReadyH.cons rfl (fun K hK => ?_) AllReadyH.nil
      go_simp
      go_at_call 18
      refine (PutX_any _ g1 z1 X Bu Bd n8 ku n9 kd L8 L9 HKb.out.a L8L.out HUb.out L9L.out HDb.out).mono ?_
      rintro e y3 ⟨vp, rfl, hB⟩
      have HK17 := Lib.hid (HKb.out.up hB)
      have HF17 := Lib.hid (HFb.out.up hB)
      have HG17 := Lib.hid (HGb.out.up_ hB)
      clear hB HKb HUb HDb HFb HGb
      refine hK.out _ _ HK17.out.op (fun hHeld => ?_)
      clear hK K
      try simp only [Act.put, List.setIfInBounds_toArray, List.set_cons_zero, List.set_cons_succ]
      refine wpAnyH_done (by kernel_rfl) ?_ _
      clear hHeld
      go_wp2_with fail
      go_at_call 20
      refine (Join_any _ g1 g2 z1 z2 HK17.out.a HK17.out.b).mono ?_
      rintro e W18 ⟨gj, rfl, -, -, hB⟩
      have HK18 := Lib.hid (HK17.out.up hB)
      have HF18 := Lib.hid (HF17.out.up hB)
      have HG18 := Lib.hid (HG17.out.up_ hB)
      clear hB HK17 HF17 HG17
      go_wp2_with fail
      go_at_call 21
      refine (Widen_any _ g1 g2 z1 z2 HK18.out.a HK18.out.b).mono ?_
      rintro e W19 ⟨gw, rfl, -, -, hB⟩
      have HK19 := Lib.hid (HK18.out.up hB)
      have HF19 := Lib.hid (HF18.out.up hB)
      have HG19 := Lib.hid (HG18.out.up_ hB)
      clear hB HK18 HF18 HG18
      have HBY := Lib.hid (fun o => below_box W19 o)
      go_wp2_with fail
      go_at_call 9
      refine (With_any _ g1 z1 _ 1 _ [⟨3, 0, 1⟩] (HK19.out.a.up (HBY.out _)) rfl (by omega) (cons_one W19 _ _ _ _)).mono ?_
      intro e W20 hM
      obtain ⟨vw, rfl, hB⟩ := made_any hM
      have hB' := (HBY.out _).trans (hB.mono (HBY.out _).size)
      have HK20 := Lib.hid (HK19.out.up hB')
      have HF20 := Lib.hid (HF19.out.up hB')
      obtain ⟨bg, og, rfl, -, hgc⟩ := (HG19.out.up_ hB') (by rw [HLN.out]; omega)
      have xg : W20.cell? ⟨bg, og + n1, none⟩ = some (.int .i64 (-3)) := hgc n1 (-3) (by rw [List.getElem?_append_right (by rw [I1.out.len]; omega), I1.out.len, Nat.sub_self]; rfl)
      have hg1 : (n1 : Int) < ((n1 + 1 : Nat) : Int) := by omega
      have hg2 : (n1 : Int) < (n1 : Int) + 1 := by omega
      clear hB hB' hM HBY HK19 HF19 HG19 hgc
      go_wp2_with fail
      obtain ⟨m, hm⟩ : ∃ m, m = (consZ z1).length := ⟨_, rfl⟩
      have HM := Lib.hid hm
      have hm0 : (0 : Int) ≤ m := by omega
      have hm36 : m ≤ 3600 := by rw [hm]; exact consZ_len z1
      clear hm
      go_at_call 22
      refine (Cons_any _ g1 z1 HK20.out.a).mono ?_
      rintro e W23 ⟨va3, rfl, hO, hB⟩
      obtain ⟨Aa, ca, rfl, hca, hCa, -⟩ := hO.consAt
      rw [← HM.out] at hO ⊢
      have HAa := Lib.hid (show AO W23 W20.heap.size (.slice Aa m ca) m by have := hO.ao; rw [← HM.out] at this; exact this)
      have HCa := Lib.hid hCa
      have HK23 := Lib.hid (HK20.out.up hB)
      have HF23 := Lib.hid (HF20.out.up hB)
      have HS23 := Lib.hid (show W20.heap.size ≤ W23.heap.size from hB.size)
      have HL1 := Lib.hid HK20.out.bl.size
      have HL2 := Lib.hid (show gb < W20.heap.size from HK20.out.op.lt)
      have HL3 := Lib.hid (show g1 < W20.heap.size from HK20.out.a.lt)
      have HL4 := Lib.hid (show g2 < W20.heap.size from HK20.out.b.lt)
      have HL5 := Lib.hid (show gz < W20.heap.size from HF20.out.lt)
      clear hB hO hCa hca HK20 HF20 xg
      go_wp2_with fail
      go_at_call 22
      refine (Cons_any _ g1 z1 HK23.out.a).mono ?_
      rintro e W24 ⟨vb3, rfl, hO, hB⟩
      obtain ⟨Ab, cb, rfl, hcb, hCb, -⟩ := hO.consAt
      rw [← HM.out] at hO ⊢
      have HAb := Lib.hid (show AO W24 W23.heap.size (.slice Ab m cb) m by have := hO.ao; rw [← HM.out] at this; exact this)
      have HCb := Lib.hid hCb
      have HCa4 := Lib.hid (HCa.out.below hB)
      have HAa4 := Lib.hid (HAa.out.up hB)
      have HK24 := Lib.hid (HK23.out.up hB)
      have HF24 := Lib.hid (HF23.out.up hB)
      have HS24 := Lib.hid (show W23.heap.size ≤ W24.heap.size from hB.size)
      clear hB hO hCb hcb HK23 HF23 HCa
      go_wp2_with (refine wpList_load_all rfl 41 _ rfl gz rfl 41 3601 (zc zn.1 zn.2) _ HF24.out Try.underlying41 rfl sizeZ ?_)
      go_at_call 23
      refine (HRC.out _).mono ?_
      rintro e W25 ⟨vw3, rfl, hO, hB⟩
      obtain ⟨Aw, cw, rfl, hcw, hCw, -⟩ := hO.consAt
      rw [← HM.out] at hO ⊢
      have HRw := Lib.hid (ownC_range hO)
      have HCw := Lib.hid hCw
      have HCa5 := Lib.hid (HCa4.out.below hB)
      have HAa5 := Lib.hid (HAa4.out.up hB)
      have HCb5 := Lib.hid (HCb.out.below hB)
      have HAb5 := Lib.hid (HAb.out.up hB)
      have HK25 := Lib.hid (HK24.out.up hB)
      have HF25 := Lib.hid (HF24.out.up hB)
      have HS25 := Lib.hid (show W24.heap.size ≤ W25.heap.size from hB.size)
      clear hB hO hCw hcw HK24 HF24 HCa4 HAa4 HCb HRC
      go_wp2_with fail
      go_at_call 24
      refine (same_yes _ Aa Aw m ca cw (consZ z1) HM.out.symm (by omega) HCa5.out HCw.out).mono ?_
      rintro e W26 ⟨rfl, hB⟩
      have HCw6 := Lib.hid (HCw.out.below hB)
      have HAa6 := Lib.hid (HAa5.out.up hB)
      have HCb6 := Lib.hid (HCb5.out.below hB)
      have HAb6 := Lib.hid (HAb5.out.up hB)
      have HK26 := Lib.hid (HK25.out.up hB)
      have HF26 := Lib.hid (HF25.out.up hB)
      have HS26 := Lib.hid (show W25.heap.size ≤ W26.heap.size from hB.size)
      clear hB HK25 HF25 HCw HAa5 HCa5 HCb5 HAb5
      go_wp2_with fail
      go_at_call 24
      refine (same_yes _ Ab Aw m cb cw (consZ z1) HM.out.symm (by omega) HCb6.out HCw6.out).mono ?_
      rintro e V ⟨rfl, hB⟩
      have HCw7 := Lib.hid (HCw6.out.below hB)
      have HAa7 := Lib.hid (HAa6.out.up hB)
      have HCb7 := Lib.hid (HCb6.out.below hB)
      have HAb7 := Lib.hid (HAb6.out.up hB)
      have HK7 := Lib.hid (HK26.out.up hB)
      have HF7 := Lib.hid (HF26.out.up hB)
      have HS7 := Lib.hid (show W25.heap.size ≤ V.heap.size from Nat.le_trans HS26.out hB.size)
      clear hB HK26 HF26 HCw6 HAa6 HCb6 HAb6 HS26
      obtain ⟨x, hx1, hx2, hx3⟩ := ao_start (W := W23) (V := V) HAa.out (by have h1 := HS23.out; have h2 := HS24.out; have h3 := HS25.out; have h4 := HS7.out; omega)
      have HXO := Lib.hid hx2
      have HXL := Lib.hid hx1
      have HXw := Lib.hid (show w.heap.size ≤ x by have := HL1.out; omega)
      have HXb := Lib.hid (show gb ≠ x by have := HL2.out; omega)
      have HXa1 := Lib.hid (show g1 ≠ x by have := HL3.out; omega)
      have HXa2 := Lib.hid (show g2 ≠ x by have := HL4.out; omega)
      have HXz := Lib.hid (show gz ≠ x by have := HL5.out; omega)
      have HFb := Lib.hid (show Far Ab x from fun b off e => by have h1 := HAb7.out.range b off e; rcases hx3 with h | h <;> omega)
      have HFw := Lib.hid (show Far Aw x from fun b off e => by have h1 := HRw.out b off e; have h2 := HS24.out; have h3 := HS7.out; rcases hx3 with h | h <;> omega)
      clear hx1 hx2 hx3 HAa HRw
      go_wp2_with fail
      go_loopw [20] (fun i wr => ∃ k : Nat, k ≤ m ∧ i = .int .i64 k ∧ AO wr W20.heap.size (.slice Aa m ca) m ∧ Touch x V wr) (fun i _ => (m - intOf i).toNat)
      case atStart => exact ⟨0, by omega, rfl, HAa7.out, Touch.refl _ _⟩
      case round =>
        obtain ⟨q2, hq2, rfl, hA, hT⟩ := hrel
        have hq20 : (0 : Int) ≤ q2 := by omega
        by_cases hlt2 : q2 < m
        · have hlt2' : (q2 : Int) < m := by omega
          obtain ⟨b, f2, rfl, hlo, hmc, hcm, hF⟩ := hA.fb (by omega)
          obtain rfl : b = x := HXO.out b rfl
          have HFx := Lib.hid hF
          have HT := Lib.hid hT
          have HKT := Lib.hid hlt2
          have HLO := Lib.hid hlo
          have HMC := Lib.hid hmc
          have HCM := Lib.hid hcm
          clear hA hF hT hlt2 hlo hmc hcm
          go_wp2_with (refine wpList_store_seg rfl 45 _ _ rfl b (q2 * 3) 45 (ca * 3) 3 f2 (fun q => if q = 0 then .int .i64 1 else if q = 1 then .int .i64 2 else .int .i64 3) rfl (congrArg Value.agg (three_arr _ _ _)) HFx.out (by have := HKT.out; have := HMC.out; omega) sizeCn (fun q _ => by show (if q = 0 then Value.int .i64 1 else if q = 1 then .int .i64 2 else .int .i64 3).oneCell' = true; split; rfl; split <;> rfl) ?_; intro W8 hb8 hT8 hs8)
          go_roundw
          case rel => exact ⟨q2 + 1, by have := HKT.out; omega, by go_num, AO.of_fb hb8 HLO.out HMC.out HCM.out, HT.out.trans hT8⟩
          case measure => simp [intOf]; omega
        · have hjm : decide ((q2 : Int) < m) = false := decide_eq_false (by omega)
          have hjm2 : decide (q2 < m) = false := decide_eq_false hlt2
          have HA2 := Lib.hid hA
          have HT2 := Lib.hid hT
          clear hA hT HAa7
          go_wp2_with fail
          have HLV := Lib.hid (show W20.heap.size ≤ V.heap.size by have h1 := HS23.out; have h2 := HS24.out; have h3 := HS25.out; have h4 := HS7.out; omega)
          go_loopw [21, 17] (fun i v wr => ∃ j : Nat, j ≤ 70 ∧ i = .int .i64 j ∧ AO wr W20.heap.size v (m + j) ∧ Mine x V.heap.size v ∧ Touch x V wr) (fun i _ _ => (70 - intOf i).toNat)
          case atStart => exact ⟨0, by omega, rfl, HA2.out, fun b hb => .inl (HXO.out b hb), HT2.out⟩
          case round =>
            clear HA2 HT2
            obtain ⟨j, hj, rfl, hA, hMi, hT⟩ := hrel
            have hj0 : (0 : Int) ≤ j := by omega
            by_cases hlt3 : j < 70
            · have hlt3' : (j : Int) < 70 := by omega
              obtain ⟨A5, c5, rfl, -⟩ := hA.form
              have HA3 := Lib.hid hA
              have HMi := Lib.hid hMi
              have HT3 := Lib.hid hT
              have HKT := Lib.hid hlt3
              have HBZ := Lib.hid (fun o => below_box wr o)
              have HBB := Lib.hid (show ∀ o, W20.heap.size ≤ (wr.alloc o).heap.size from fun o => Nat.le_trans HLV.out (Nat.le_trans hT.size (below_box wr o).size))
              have HMJ := Lib.hid (show m + j ≤ 5000 by omega)
              clear hA hMi hT hlt3
              go_upto_region 35 with (fail)
              go_wp2_with (at_builtin; (refine append_ao rfl (.tmp 153) (.tmp 155) rfl W20.heap.size x _ (m + j) rfl (HA3.out.up (HBZ.out _)) HMi.out (HT3.out.trans (Touch.alloc _ _)) _ _ ⟨1, 2, 3⟩ rfl (cons_one wr _ _ _ _) HMJ.out (HBB.out _) ?_; intro v' w' h1 h2 h3))
              go_roundw
              case rel => exact ⟨j + 1, by have := HKT.out; omega, by go_num, h1, h2, h3⟩
              case measure => simp [intOf]; omega
            · obtain rfl : j = 70 := by omega
              obtain ⟨A7', c7', rfl, -⟩ := hA.form
              have HK8 := Lib.hid (HK7.out.touch hT HXw.out HXb.out HXa1.out HXa2.out)
              have HF8 := Lib.hid (HF7.out.touch hT HXz.out)
              have HCb8 := Lib.hid (HCb7.out.touch HFb.out hT)
              have HCw8 := Lib.hid (HCw7.out.touch HFw.out hT)
              have HAb8 := Lib.hid (HAb7.out.touch2 hT HFb.out)
              have HS8 := Lib.hid (show V.heap.size ≤ wr.heap.size from hT.size)
              obtain ⟨M, hM⟩ : ∃ M, M = m + 70 := ⟨_, rfl⟩
              rw [← hM]
              have hM1 : (M : Int) = (m : Int) + 70 := by omega
              clear hA hMi hT HK7 HF7 HCb7 HCw7 HAb7 hlt3 hM
              go_wp2_with fail
              go_at_call 24
              refine (same_yes _ Ab Aw m cb cw (consZ z1) HM.out.symm (by omega) HCb8.out HCw8.out).mono ?_
              rintro e W36 ⟨rfl, hB⟩
              have HK36 := Lib.hid (HK8.out.up hB)
              have HF36 := Lib.hid (HF8.out.up hB)
              have HAb36 := Lib.hid (HAb8.out.up hB)
              have HS36 := Lib.hid (show wr.heap.size ≤ W36.heap.size from hB.size)
              clear hB HK8 HF8 HAb8 HCb8 HCw8
              obtain ⟨y, hy1, hy2, hy3⟩ := ao_start (W := W24) (V := W36) HAb.out (by have h1 := HS24.out; have h2 := HS25.out; have h3 := HS7.out; have h4 := HS8.out; have h5 := HS36.out; omega)
              have HYO := Lib.hid hy2
              have HYw := Lib.hid (show w.heap.size ≤ y by have := HL1.out; have := HS23.out; omega)
              have HYb := Lib.hid (show gb ≠ y by have := HL2.out; have := HS23.out; omega)
              have HYa1 := Lib.hid (show g1 ≠ y by have := HL3.out; have := HS23.out; omega)
              have HYa2 := Lib.hid (show g2 ≠ y by have := HL4.out; have := HS23.out; omega)
              have HYz := Lib.hid (show gz ≠ y by have := HL5.out; have := HS23.out; omega)
              clear hy1 hy2 hy3
              go_wp2_with fail
              go_loopw [22] (fun i wr => ∃ k : Nat, k ≤ m ∧ i = .int .i64 k ∧ AO wr W23.heap.size (.slice Ab m cb) m ∧ Touch y W36 wr) (fun i _ => (m - intOf i).toNat)
              case atStart => exact ⟨0, by omega, rfl, HAb36.out, Touch.refl _ _⟩
              case round =>
                clear HAb36
                obtain ⟨q4, hq4, rfl, hA, hT⟩ := hrel
                have hq40 : (0 : Int) ≤ q4 := by omega
                by_cases hlt4 : q4 < m
                · have hlt4' : (q4 : Int) < m := by omega
                  obtain ⟨b, f4, rfl, hlo, hmc, hcm, hF⟩ := hA.fb (by omega)
                  obtain rfl : b = y := HYO.out b rfl
                  have HFx := Lib.hid hF
                  have HT := Lib.hid hT
                  have HKT := Lib.hid hlt4
                  have HLO := Lib.hid hlo
                  have HMC := Lib.hid hmc
                  have HCM := Lib.hid hcm
                  clear hA hF hT hlt4 hlo hmc hcm
                  go_wp2_with (refine wpList_store_seg rfl 45 _ _ rfl b (q4 * 3) 45 (cb * 3) 3 f4 (fun q => if q = 0 then .int .i64 4 else if q = 1 then .int .i64 5 else .int .i64 6) rfl (congrArg Value.agg (three_arr _ _ _)) HFx.out (by have := HKT.out; have := HMC.out; omega) sizeCn (fun q _ => by show (if q = 0 then Value.int .i64 4 else if q = 1 then .int .i64 5 else .int .i64 6).oneCell' = true; split; rfl; split <;> rfl) ?_; intro W8 hb8 hT8 hs8)
                  go_roundw
                  case rel => exact ⟨q4 + 1, by have := HKT.out; omega, by go_num, AO.of_fb hb8 HLO.out HMC.out HCM.out, HT.out.trans hT8⟩
                  case measure => simp [intOf]; omega
                · have hjq : decide ((q4 : Int) < m) = false := decide_eq_false (by omega)
                  have hjq2 : decide (q4 < m) = false := decide_eq_false hlt4
                  have HK40 := Lib.hid (HK36.out.touch hT HYw.out HYb.out HYa1.out HYa2.out)
                  have HF40 := Lib.hid (HF36.out.touch hT HYz.out)
                  clear hA hT HK36 HF36
                  go_wp2_with (refine wpList_load_all rfl 41 _ rfl gz rfl 41 3601 (zc zn.1 zn.2) _ HF40.out Try.underlying41 rfl sizeZ ?_)
                  go_at_call 25
                  refine (HIS.out _ HK40.out.a).mono ?_
                  rintro e W42 ⟨rfl, hB⟩
                  have HB42 := Lib.hid (HK40.out.bl.trans (hB.mono HK40.out.bl.size))
                  clear hB
                  go_wp2_with fail
                  go_at_call 12
                  refine (awake_any _).mono ?_
                  rintro e W43 ⟨rfl, hB⟩
                  have HB43 := Lib.hid (HB42.out.trans (hB.mono HB42.out.size))
                  clear hB
                  go_wp2_with fail
                  go_ret
                  exact ⟨rfl, HB43.out⟩
theorem zoneKept_walk (w : World) (A0 : Option Addr) (n0 c0 : Nat) (L0 : List Con) (i0 : ConIn w A0 n0 c0 L0) (A1 : Option Addr) (n1 c1 : Nat) (L1 : List Int) (i1 : NumIn w A1 n1 c1 L1) (k0 k1 k2 X Y C : Int) (hX : I64 X) (A6 A7 A8 A9 : Option Addr) (n6 c6 n7 c7 n8 c8 n9 c9 : Nat) (L8 : List (Bool × Int)) (l8 : L8.length = n8) (i8 : BsAt w A8 L8) (L9 : List (Bool × Int)) (l9 : L9.length = n9) (i9 : BsAt w A9 L9) (hn : n8 ≤ 8796093022208 ∧ n9 ≤ 8796093022208) :
    Calls Try.prog 3 #[.slice A0 n0 c0, .slice A1 n1 c1, .agg #[.int .i64 k0, .int .i64 k1, .int .i64 k2, .int .i64 X, .int .i64 Y, .int .i64 C, .slice A6 n6 c6, .slice A7 n7 c7, .slice A8 n8 c8, .slice A9 n9 c9]] w (True_ w) := by
  by_cases e : wrongL L0 = 0
  · exact zoneKept_yes w A0 n0 c0 L0 i0 A1 n1 c1 L1 i1 k0 k1 k2 X Y C hX A6 A7 A8 A9 n6 c6 n7 c7 n8 c8 n9 c9 L8 l8 i8 L9 l9 i9 hn e
  · exact zoneKept_no w A0 n0 c0 L0 i0 A1 n1 c1 L1 i1 k0 k1 k2 X Y C hX A6 A7 A8 A9 n6 c6 n7 c7 n8 c8 n9 c9 L8 l8 i8 L9 l9 i9 hn e
end Go.Proofs.Ytejcijbohnlbgaa
