/- Package pack: a container made, turned in one byte, and read. -/
import Derived.Test.YtmihdhceicmnlaaPkV
namespace Go.Proofs.Ytmihdhceicmnlaa.Pak
open Go.ChangeShapes Go.WideShapes Go.ChangeAt Go.RowKit
set_option linter.unusedVariables false
set_option linter.unusedSimpArgs false
set_option maxRecDepth 100000
structure Small (k : Pk) : Prop where
  data : k.data.length ≤ 140737488355328
  code : k.code.length ≤ 140737488355328
  tabs : k.tabs.length ≤ 8796093022208
  bd : Bytes k.data
  bc : Bytes k.code
theorem enc_form {w : World} {w0 : Nat} {k : Pk} {v : Value} (h : if encE k = 0 then OwnB w w0 v (encW k) else v = .slice none 0 0) :
    ∃ A n c, v = .slice A n c ∧ (encE k = 0 → Sl w A n c (encW k)) ∧ (encE k ≠ 0 → n = 0) := by
  by_cases he : encE k = 0
  · rw [if_pos he] at h
    obtain ⟨A, n, c, hv, hs⟩ := own_full h
    exact ⟨A, n, c, hv, fun _ => hs, fun h0 => absurd he h0⟩
  · rw [if_neg he] at h
    exact ⟨none, 0, 0, h, fun h0 => absurd h0 he, fun _ => rfl⟩
/-- A container copied and made: what both laws begin with. -/
def MadeAt (w : World) (k : Pk) (A : Option Addr) (n c : Nat) : Prop := (encE k = 0 → Sl w A n c (encW k)) ∧ (encE k ≠ 0 → n = 0)
theorem MadeAt.up {w w' : World} {k : Pk} {A : Option Addr} {n c : Nat} (h : MadeAt w k A n c) (hb : Below w.heap.size w w') : MadeAt w' k A n c := ⟨fun h0 => (h.1 h0).up hb, h.2⟩
theorem and62 (a : Int) : ∃ m : Nat, bits BinOp.and IntKind.i64 a 4611686018427387903 = (m : Int) ∧ m ≤ 4611686018427387903 := by
  refine ⟨(BitVec.ofInt 64 a &&& BitVec.ofInt 64 4611686018427387903).toNat, ?_, ?_⟩
  · show IntKind.i64.wrap (((BitVec.ofInt 64 a &&& BitVec.ofInt 64 4611686018427387903).toNat : Nat) : Int) = _
    have h : (BitVec.ofInt 64 a &&& BitVec.ofInt 64 4611686018427387903).toNat ≤ 4611686018427387903 := by
      rw [BitVec.toNat_and]
      exact Nat.le_trans Nat.and_le_right (by decide)
    generalize (BitVec.ofInt 64 a &&& BitVec.ofInt 64 4611686018427387903).toNat = m at *
    simp [IntKind.wrap, IntKind.bits, IntKind.signed]
    omega
  · rw [BitVec.toNat_and]
    exact Nat.le_trans Nat.and_le_right (by decide)
theorem xor_u8 (a b : Nat) (ha : a < 256) (hb : b < 256) : bits BinOp.xor IntKind.u8 (a : Int) (b : Int) = ((a ^^^ b : Nat) : Int) := by
  show IntKind.u8.wrap (((BitVec.ofInt 8 (a : Int) ^^^ BitVec.ofInt 8 (b : Int)).toNat : Nat) : Int) = _
  rw [BitVec.toNat_xor, BitVec.toNat_ofInt, BitVec.toNat_ofInt, u8_wrap]
  have e1 : ((a : Int) % ((2 ^ 8 : Nat) : Int)).toNat = a := by omega
  have e2 : ((b : Int) % ((2 ^ 8 : Nat) : Int)).toNat = b := by omega
  rw [e1, e2]
  have h := Nat.xor_lt_two_pow (n := 8) ha hb
  omega
theorem flip_u8 (x : Int) (z : Nat) (hx : 0 ≤ x ∧ x < 256) (hz : 1 ≤ z ∧ z ≤ 255) : IsB (bits BinOp.xor IntKind.u8 x (z : Int)) ∧ bits BinOp.xor IntKind.u8 x (z : Int) ≠ x := by
  obtain ⟨a, rfl⟩ : ∃ a : Nat, x = a := ⟨x.toNat, by omega⟩
  rw [xor_u8 a z (by omega) (by omega)]
  have h := Nat.xor_lt_two_pow (n := 8) (x := a) (y := z) (by omega) (by omega)
  refine ⟨⟨by omega, by omega⟩, fun e => ?_⟩
  have e2 : a ^^^ z = a := by omega
  have e3 : a ^^^ (a ^^^ z) = 0 := by rw [e2, Nat.xor_self]
  rw [← Nat.xor_assoc, Nat.xor_self, Nat.zero_xor] at e3
  omega
theorem own_new {w : World} {base : Nat} {v : Value} {L : List Int} (h : OwnB w base v L) (hL : 0 < L.length) : ∃ g c, v = .slice (some ⟨g, 0, none⟩) L.length c ∧ base ≤ g ∧ Sl w (some ⟨g, 0, none⟩) L.length c L ∧ ∀ i, w.frozen? ⟨g, i, none⟩ = false := by
  obtain ⟨A, n, c, hv, hs⟩ := own_full h
  have hn := hs.len.out
  subst hn
  rcases h.2 with ⟨hv', hn⟩ | ⟨g, cap, cur, hv', hg, hh, -⟩
  · omega
  · subst hv
    injection hv' with h1 h2 h3
    subst h1
    exact ⟨g, c, rfl, hg, hs, fun i => by simp [World.frozen?, hh]⟩
theorem sl_set {w : World} {g n c : Nat} {L : List Int} (h : Sl w (some ⟨g, 0, none⟩) n c L) (i : Nat) (y : Int) (hi : i < n) : Sl (w.setCell ⟨g, i, none⟩ (.int .u8 y)) (some ⟨g, 0, none⟩) n c (L.set i y) := by
  have hl := h.len.out
  obtain ⟨b, off, e, hb, hc⟩ := h.byt (by omega)
  injection e with e
  injection e with e1 e2
  subst e1 e2
  refine ⟨Lib.hid (by rw [List.length_set]; exact hl), h.cap, fun hp => ⟨g, 0, rfl, by simpa [World.setCell] using hb, fun j => ?_⟩, fun b off e => by injection e with e; injection e with e1 e2; subst e1; simpa [World.setCell] using hb⟩
  intro hj
  rw [List.length_set] at hj
  by_cases hji : j = i
  · subst hji
    rw [Nat.zero_add]
    have h0 := hc j (by omega)
    rw [Nat.zero_add] at h0
    rw [World.cell?_setCell_same' _ _ _ (by rw [h0]; rfl)]
    simp [hj]
  · rw [World.cell?_setCell_other _ _ _ _ (by intro e; injection e with e1 e2; omega), hc j hj]
    rw [List.getElem?_set_ne (fun e => hji e.symm)]
theorem none_at (w : World) : PkAt w (.slice none 0 0) (.slice none 0 0) (.slice none 0 0) Pk.none :=
  ⟨⟨none, 0, 0, rfl, ⟨Lib.hid rfl, Nat.le_refl _, fun hp => absurd hp (by simp [Pk.none]), fun b off e => by cases e⟩⟩,
   ⟨none, 0, 0, rfl, ⟨Lib.hid rfl, Nat.le_refl _, fun hp => absurd hp (by simp [Pk.none])⟩⟩,
   ⟨none, 0, 0, rfl, ⟨Lib.hid rfl, Nat.le_refl _, fun hp => absurd hp (by simp [Pk.none]), fun b off e => by cases e⟩⟩⟩
theorem sameNone_any (w : World) : Calls Try.prog 14 #[.agg #[.int .i64 0, .int .i64 0, .slice none 0 0, .slice none 0 0, .slice none 0 0], .agg #[.int .i64 0, .int .i64 0, .slice none 0 0, .slice none 0 0, .slice none 0 0]] w (RetB w (.bool true)) :=
  samePack_any w Pk.none Pk.none _ _ _ _ _ _ (none_at w) (none_at w) Bytes.nil Bytes.nil Bytes.nil Bytes.nil (by simp [Pk.none]) (by simp [Pk.none])
set_option maxHeartbeats 8000000 in
theorem packSums_any (w : World) (k : Pk) (vd vt vc : Value) (at_ turn : Int) (hk : PkAt w vd vt vc k) (hs : Small k) (ha : -9223372036854775808 ≤ at_ ∧ at_ ≤ 9223372036854775807) (ht : -9223372036854775808 ≤ turn ∧ turn ≤ 9223372036854775807) :
    Calls Try.prog 6 #[.agg (arr 5 (pkF k.lo k.hi vd vt vc)), .int .i64 at_, .int .i64 turn] w (RetB w (.bool true)) := by
  obtain ⟨X, hX⟩ : ∃ X, X = pkF k.lo k.hi vd vt vc := ⟨_, rfl⟩
  rw [← hX]
  have HX := Lib.hid hX
  have HK := Lib.hid hk
  have HS := Lib.hid hs
  have HA := Lib.hid ha
  have HT := Lib.hid ht
  clear hX hk hs ha ht
  go_enter Try.func6, Try.ntmps6
  go_upto_region 1 with (refine wpList_box_seg rfl _ (.tmp 0) rfl 5 X rfl ?_; intro w1 h1 hB1 hs1)
  obtain ⟨g, hg⟩ : ∃ g, g = w.heap.size := ⟨_, rfl⟩
  rw [← hg] at h1 ⊢
  have HF1 := Lib.hid h1
  have HB1 := Lib.hid hB1
  clear h1 hB1 hs1 hg
  go_upto_region 3 with (go_at_call 8; refine (awake_any w1).mono ?_; rintro e w2 ⟨rfl, hB2⟩)
  have HF2 := Lib.hid (HF1.out.up hB2)
  have HB2 := Lib.hid (HB1.out.trans (hB2.mono HB1.out.size))
  clear hB2 HF1 HB1
  go_upto_region 4 with (first
    | (refine wpList_load_all rfl 25 _ rfl g rfl 25 5 X _ HF2.out Try.underlying25 rfl sizePk ?_)
    | (go_at_call 13; rw [HX.out]; refine (copyPack_any w2 k _ _ _ (HK.out.up HB2.out) HS.out.data HS.out.code HS.out.tabs).mono ?_; rintro e w3 ⟨ud, ut, uc, rfl, hP3, hB3⟩; have HP3 := Lib.hid hP3; have HB3 := Lib.hid (HB2.out.trans (hB3.mono HB2.out.size)); clear hP3 hB3; obtain ⟨Y, hY⟩ : ∃ Y, Y = pkF k.lo k.hi ud ut uc := ⟨_, rfl⟩; rw [← hY]; have HY := Lib.hid hY; clear hY)
    | (go_at_call 11; rw [HY.out]; refine (encode_any w3 k _ _ _ HP3.out HS.out.bd HS.out.bc HS.out.code (by have := HS.out.tabs; omega)).mono ?_; rintro e w4 ⟨hB4, v, rfl, hv⟩; have HV := Lib.hid hv; have HB4 := Lib.hid (HB3.out.trans (hB4.mono HB3.out.size)); clear hv hB4; obtain ⟨A, n, c, rfl, hm⟩ := enc_form HV.out; have HM := Lib.hid (show MadeAt w4 k A n c from hm); clear hm HV; obtain ⟨ee, hee⟩ : ∃ ee, ee = encE k := ⟨_, rfl⟩; rw [← hee]; have HE := Lib.hid hee; clear hee))
  clear HX HK HF2 HB2 HP3 HB3 HY
  by_cases h0 : ee = 0
  case neg =>
    have t0 : (ee != 0) = true := by rw [bne_iff_ne]; exact h0
    obtain rfl : n = 0 := HM.out.2 (by rw [← HE.out]; exact h0)
    clear h0
    go_wp2_with fail
    go_ret
    exact ⟨rfl, HB4.out⟩
  have t0 : (ee != 0) = false := by rw [h0]; rfl
  have HE0 := Lib.hid (show encE k = 0 by rw [← HE.out]; exact h0)
  clear h0
  have HSL := Lib.hid (HM.out.1 HE0.out)
  clear HM
  have hn16 : 16 ≤ n ∧ n ≤ 131072 := by
    have h1 := HSL.out.len.out
    have h2 := enc_len k
    have h3 := body_len k
    have h4 := (encE_zero HE0.out).2
    omega
  have tn : ((n : Int) == 0) = false := by rw [beq_eq_false_iff_ne]; omega
  go_upto_region 7 with fail
  obtain ⟨m, hm, hm2⟩ := and62 at_
  obtain ⟨m', hm', hm2'⟩ := and62 turn
  obtain ⟨i, hi⟩ : ∃ i, i = m % n := ⟨_, rfl⟩
  have hin : i < n := by rw [hi]; exact Nat.mod_lt _ (by omega)
  have hti : (bits BinOp.and IntKind.i64 at_ 4611686018427387903).tmod (n : Int) = (i : Int) := by
    rw [hm, hi, Int.tmod_eq_emod_of_nonneg (by omega)]; rfl
  rw [hti]
  have HM' := Lib.hid (And.intro hm' hm2')
  clear hti hm hm2 hi hm' hm2' m
  go_upto_region 8 with (go_at_call 20; refine (copyBytes_own w4 A n c (encW k) HSL.out (by omega)).mono ?_; rintro e w5 ⟨v5, rfl, hO5, hB5⟩; have HO5 := Lib.hid hO5; have HB5 := Lib.hid (HB4.out.trans (hB5.mono HB4.out.size)); clear hO5 hB5; obtain ⟨gc, c5, rfl, hgc, hS5, hfz⟩ := own_new HO5.out (by rw [HSL.out.len.out]; omega))
  have hlL := HSL.out.len.out
  rw [hlL] at hS5 ⊢
  obtain ⟨x, hx⟩ : ∃ x, (encW k)[i]? = some x := ⟨_, List.getElem?_eq_getElem (by omega)⟩
  have HX := Lib.hid hx
  have HBX := Lib.hid (enc_bytes HS.out.bd HS.out.bc x (List.mem_of_getElem? hx))
  have hcx : w5.cell? ⟨gc, i, none⟩ = some (.int .u8 x) := by
    obtain ⟨b, off, e, hb, hc⟩ := hS5.byt (by omega)
    injection e with e
    injection e with e1 e2
    subst e1 e2
    have h1 := hc i (by omega)
    rw [Nat.zero_add, hx] at h1
    exact h1
  have HS5 := Lib.hid hS5
  have HGC := Lib.hid hgc
  have hcn := HSL.out.cap
  have hc5 := hS5.cap
  obtain ⟨z, hz⟩ : ∃ z, z = 1 + m' % 255 := ⟨_, rfl⟩
  have HZ := Lib.hid hz
  have hz1 : (m' : Int).tmod 255 + 1 = z := by rw [hz, Int.tmod_eq_emod_of_nonneg (by omega)]; omega
  have hz1' : 1 + (m' : Int).tmod 255 = z := by omega
  have hz2 : z ≤ 255 := by omega
  have hz3 : 1 ≤ z := by omega
  have hzu := u8_wrap (z : Int)
  rw [Int.emod_eq_of_lt (by omega) (by omega)] at hzu
  have hmm := HM'.out.1
  have hfr := hfz i
  clear hS5 hgc hx hlL hz HO5 hcn hfz
  go_upto_region 9 with fail
  clear hcx hfr hmm hzu
  obtain ⟨y, hy⟩ : ∃ y, y = bits BinOp.xor IntKind.u8 x (1 + (m' : Int) % 255) := ⟨_, rfl⟩
  obtain ⟨w6, hw6⟩ : ∃ u, u = w5.setCell ⟨gc, i, none⟩ (.int .u8 y) := ⟨_, rfl⟩
  have hzz : 1 + (m' : Int) % 255 = (z : Int) := by rw [HZ.out]; omega
  have hfl := flip_u8 x z HBX.out ⟨by omega, hz2⟩
  rw [← hzz, ← hy] at hfl
  rw [← hy, ← hw6]
  have HFL := Lib.hid hfl
  have HB6 := Lib.hid (show Below w.heap.size w w6 by rw [hw6]; exact HB5.out.setCell (Nat.le_trans HB4.out.size HGC.out) _)
  have HS6 := Lib.hid (show Sl w6 (some ⟨gc, 0, none⟩) n c5 ((encW k).set i y) by rw [hw6]; exact sl_set HS5.out i y hin)
  have HD := Lib.hid (show decP ((encW k).set i y) = if i < 4 then .error (0, 120) else .error ((encW k).length - 4, 124) from turned HE0.out HS.out.bd HS.out.bc (by rw [HSL.out.len.out]; exact hin) HFL.out.1 (fun e => HFL.out.2 (by rw [HX.out] at e; injection e with e; exact e.symm)))
  have HY6 := Lib.hid (show Bytes ((encW k).set i y) from fun u hu => by
    rcases List.mem_or_eq_of_mem_set hu with h7 | h7
    · exact enc_bytes HS.out.bd HS.out.bc u h7
    · rw [h7]; exact HFL.out.1)
  have HDE := Lib.hid (decode_any w6 _ n c5 _ HS6.out HY6.out (by omega))
  rw [HD.out, HSL.out.len.out] at HDE
  clear hy hw6 hfl hzz hz1 hz1' hz2 hz3 HD HM' HZ HBX HS5 HGC HFL
  by_cases h4 : i < 4
  · have t4 : decide ((i : Int) < 4) = true := decide_eq_true (by omega)
    have t5 : decide ((i : Int) ≥ 4) = false := decide_eq_false (by omega)
    rw [if_pos h4] at HDE
    clear h4
    go_upto_region 10 with (first
      | (go_at_call 23; refine HDE.out.mono ?_; rintro e w7 ⟨hB7, rfl⟩; have HB7 := Lib.hid (HB6.out.trans (hB7.mono HB6.out.size)); clear hB7)
      | (refine wpList_alloc_seg rfl 25 rfl 5 zeroPkF zeroPk ?_; intro w8 h8 hB8 hs8)
      | (refine wpList_store_all rfl 25 _ _ rfl w7.heap.size 25 5 _ zeroPkF rfl rfl h8 sizePk (pkF_one rfl rfl rfl) ?_; intro w9 h9 hT9 hs9))
    obtain ⟨gr, hgr⟩ : ∃ gr, gr = w7.heap.size := ⟨_, rfl⟩
    have hb9 : Below w7.heap.size w7 w9 := hB8.trans (hT9.below (Nat.le_refl _) hB8.size)
    rw [← hgr] at h9 ⊢
    have HF9 := Lib.hid h9
    have HB9 := Lib.hid (HB7.out.trans (hb9.mono HB7.out.size))
    clear h8 hB8 hs8 h9 hT9 hs9 hgr hb9 HB7
    have x0 : w9.cell? ⟨gr, 0, none⟩ = some (.int .i64 0) := HF9.out.cell 0 (by decide)
    have x1 : w9.cell? ⟨gr, 1, none⟩ = some (.int .i64 0) := HF9.out.cell 1 (by decide)
    have x2 : w9.cell? ⟨gr, 2, none⟩ = some (.slice none 0 0) := HF9.out.cell 2 (by decide)
    have x3 : w9.cell? ⟨gr, 3, none⟩ = some (.slice none 0 0) := HF9.out.cell 3 (by decide)
    have x4 : w9.cell? ⟨gr, 4, none⟩ = some (.slice none 0 0) := HF9.out.cell 4 (by decide)
    go_wp2_with (go_at_call 14; refine (sameNone_any w9).mono ?_; rintro e w10 ⟨rfl, hB10⟩)
    go_ret
    exact ⟨rfl, HB9.out.trans (hB10.mono HB9.out.size)⟩
  · have t4 : decide ((i : Int) < 4) = false := decide_eq_false (by omega)
    have t5 : decide ((i : Int) ≥ 4) = true := decide_eq_true (by omega)
    rw [if_neg h4] at HDE
    clear h4
    have HDE' := Lib.hid (HDE.out.mono (R' := fun e w' => Below w6.heap.size w6 w' ∧ e = .returned (.tuple #[.agg (arr 5 zeroPkF), .int .i64 ((n : Int) - 4), .int .i64 124])) fun e w' h => ⟨h.1, by have h2 : e = .returned (.tuple #[.agg (arr 5 zeroPkF), .int .i64 ((n - 4 : Nat) : Int), .int .i64 124]) := h.2; rw [h2, show ((n - 4 : Nat) : Int) = (n : Int) - 4 by omega]⟩)
    clear HDE
    have HDE := HDE'
    clear HDE'
    go_upto_region 10 with (first
      | (go_at_call 23; refine HDE.out.mono ?_; rintro e w7 ⟨hB7, rfl⟩; have HB7 := Lib.hid (HB6.out.trans (hB7.mono HB6.out.size)); clear hB7)
      | (refine wpList_alloc_seg rfl 25 rfl 5 zeroPkF zeroPk ?_; intro w8 h8 hB8 hs8)
      | (refine wpList_store_all rfl 25 _ _ rfl w7.heap.size 25 5 _ zeroPkF rfl rfl h8 sizePk (pkF_one rfl rfl rfl) ?_; intro w9 h9 hT9 hs9))
    obtain ⟨gr, hgr⟩ : ∃ gr, gr = w7.heap.size := ⟨_, rfl⟩
    have hb9 : Below w7.heap.size w7 w9 := hB8.trans (hT9.below (Nat.le_refl _) hB8.size)
    rw [← hgr] at h9 ⊢
    have HF9 := Lib.hid h9
    have HB9 := Lib.hid (HB7.out.trans (hb9.mono HB7.out.size))
    clear h8 hB8 hs8 h9 hT9 hs9 hgr hb9 HB7
    have x0 : w9.cell? ⟨gr, 0, none⟩ = some (.int .i64 0) := HF9.out.cell 0 (by decide)
    have x1 : w9.cell? ⟨gr, 1, none⟩ = some (.int .i64 0) := HF9.out.cell 1 (by decide)
    have x2 : w9.cell? ⟨gr, 2, none⟩ = some (.slice none 0 0) := HF9.out.cell 2 (by decide)
    have x3 : w9.cell? ⟨gr, 3, none⟩ = some (.slice none 0 0) := HF9.out.cell 3 (by decide)
    have x4 : w9.cell? ⟨gr, 4, none⟩ = some (.slice none 0 0) := HF9.out.cell 4 (by decide)
    go_wp2_with (go_at_call 14; refine (sameNone_any w9).mono ?_; rintro e w10 ⟨rfl, hB10⟩)
    go_ret
    exact ⟨rfl, HB9.out.trans (hB10.mono HB9.out.size)⟩
end Go.Proofs.Ytmihdhceicmnlaa.Pak
