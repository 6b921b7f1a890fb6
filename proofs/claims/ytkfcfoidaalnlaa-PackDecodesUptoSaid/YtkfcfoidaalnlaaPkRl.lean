/- Package pack: PackDecodes's walk. -/
import Derived.Test.YtkfcfoidaalnlaaPkRk
import Derived.StillTail
import Derived.StillTailTactics
import Derived.Deep.DeepCutAuto
namespace Go.Proofs.Ytkfcfoidaalnlaa.Pak
open Go.ChangeShapes Go.WideShapes Go.ChangeAt Go.RowKit
open Ln
set_option linter.unusedVariables false
set_option linter.unusedSimpArgs false
set_option maxRecDepth 100000
theorem append_bytes_gR {P : Program} (hu : P.underlying 22 = some (.slice 5)) (hinf : (P.info? 5).map (fun i => (i.zero, i.size, i.bytes)) = some (some (.int .u8 0), 1, 1)) (w : World) {ops : Array Oper} {rest : List Oper} {o : Oper} {a : Act} {Q : Exit → Act → World → Prop} (hw : Region.wanted o (yielded ops a.tmps) = true) (s x : Operand)
    (ho : o.op = .call { callee := .builtin .append, args := #[s, x], argTypes := #[22, 22] })
    (base : Nat) (v : Value) (L : List Int) (hs : a.eval s = v) (hown : OwnB w base v L)
    (A : Option Addr) (m c : Nat) (M : List Int) (hx : a.eval x = .slice A m c) (hm : M.length = m) (hr : BytesAt w A M)
    (hlen : L.length + m ≤ 140737488355328) (hbase : base ≤ w.heap.size)
    (h : ∀ v' w', OwnB w' base v' (L ++ M) → Below base w w' → wpList P ops Q rest (a.put o.dst v') w') : wpList P ops Q (o :: rest) a w := by
  subst hm
  obtain ⟨i0, hi, hz0, hz1, hz2⟩ := info_parts hinf
  refine wpList_step fun K hK => ?_
  rw [if_pos hw]
  refine wp_append_any w s x 22 ho base 5 i0 (.int .u8 0) 1 1 hu hi hz0 hz1 hz2 rfl (by decide) v L.length _ hs hown w.heap.size A M.length c _ hx hr.reads
    (fun u hu => ?_) (by unfold maxLen; omega) (by omega) hbase ?_
  · simp only [List.mem_map] at hu
    obtain ⟨z, _, rfl⟩ := hu
    rfl
  · intro v' w' h1 h2 _
    refine hK _ _ (h v' w' ?_ ((Below.refl base w).grown h2 hbase fun k hk => (World.ownsRow.lt hown k hk).1))
    unfold OwnB
    rw [List.length_append, List.map_append]
    exact h1
/-- what stands between two readings: the bytes that are turned, the lender, the book -/
structure DS (w : World) (g G : Nat) (A : Option Addr) (n c : Nat) (L : List Int) (rb : Option Nat) (R : List Int) (Z : Nat → Prop) (T m : Nat) (W : World) : Prop where
  below : Below w.heap.size w W
  room : Room W g rb R
  len : R.length ≤ 1099511627776
  bk : BkS Z G T m W
  z0 : ∀ b, b < w.heap.size → Z b
  zg : Z g ∧ w.heap.size ≤ g
  zr : ∀ r, rb = some r → Z r ∧ w.heap.size ≤ r
  ll : L.length = n
  lb : Bytes L
  row : 0 < n → ∃ bc, A = some ⟨bc, 0, none⟩ ∧ Rw W bc L ∧ n ≤ c ∧ w.heap.size ≤ bc ∧ Z bc ∧ bc ≠ g ∧ rb ≠ some bc
  none_ : n = 0 → ∀ b off, A = some ⟨b, off, none⟩ → b < W.heap.size ∧ b ≠ g ∧ rb ≠ some b
  cap : n ≤ c
section
variable {w W W' : World} {g G n c : Nat} {A : Option Addr} {L : List Int} {rb : Option Nat} {R : List Int} {Z : Nat → Prop} {T m T' m' : Nat}
theorem DS.glt (h : DS w g G A n c L rb R Z T m W) : g < W.heap.size := by obtain ⟨cs, h1⟩ := Room.blk h.room; exact h1.lt
theorem DS.rlt (h : DS w g G A n c L rb R Z T m W) : ∀ r, rb = some r → r < W.heap.size := fun r hr => by obtain ⟨cs, h1⟩ := room_old h.room r hr; exact h1.lt
theorem DS.sl (h : DS w g G A n c L rb R Z T m W) : Sl W A n c L := by
  rcases Nat.eq_zero_or_pos n with h0 | h0
  · exact ⟨Lib.hid h.ll, h.cap, fun hp => by have := h.ll; omega, fun b off e => (h.none_ h0 b off e).1⟩
  · obtain ⟨bc, rfl, hr, hc, -⟩ := h.row h0
    exact hr.sl h.ll hc
theorem DS.apart (h : DS w g G A n c L rb R Z T m W) : ∀ b off, A = some ⟨b, off, none⟩ → b ≠ g ∧ rb ≠ some b := fun b off e => by
  rcases Nat.eq_zero_or_pos n with h0 | h0
  · exact (h.none_ h0 b off e).2
  · obtain ⟨bc, h1, -, -, -, -, h2, h3⟩ := h.row h0
    rw [h1] at e; injection e with e; injection e with e1; subst e1; exact ⟨h2, h3⟩
theorem DS.up (h : DS w g G A n c L rb R Z T m W) (hb : Below W.heap.size W W') : DS w g G A n c L rb R (fun b => Z b ∨ (W.heap.size ≤ b ∧ b < W'.heap.size)) T m W' :=
  ⟨h.below.trans (hb.mono h.below.size), Room.up h.room hb, h.len, ⟨use_grow h.bk.use ((KZ.refl Z W).up hb)⟩, fun b hb => .inl (h.z0 b hb), ⟨.inl h.zg.1, h.zg.2⟩, fun r hr => ⟨.inl (h.zr r hr).1, (h.zr r hr).2⟩, h.ll, h.lb,
    fun hp => by obtain ⟨bc, h1, h2, h3, h4, h5, h6, h7⟩ := h.row hp; exact ⟨bc, h1, h2.up hb, h3, h4, .inl h5, h6, h7⟩,
    fun h0 b off e => by have := h.none_ h0 b off e; exact ⟨Nat.lt_of_lt_of_le this.1 hb.size, this.2⟩, h.cap⟩
theorem DS.mono (h : DS w g G A n c L rb R Z T m W) (hT : T ≤ T') (hm : m ≤ m') : DS w g G A n c L rb R Z T' m' W := { h with bk := h.bk.mono2 hT hm }
/-- one reading later -/
theorem DS.next (h : DS w g G A n c L rb R Z T m W) (hd : DcEnd Z g rb G T' m' W W') : ∃ r' R' Z', DS w g G A n c L (some r') R' Z' T' m' W' := by
  obtain ⟨r', R', Z', h1, h2, h3, h4, h5, h6⟩ := hd.ex
  have hs := h.below.size
  have hg := h.glt
  refine ⟨r', R', Z', ⟨h.below.trans ⟨hd.z0.os, hd.z0.tape, hd.z0.output, hd.z0.size, fun b hb => ?_⟩, h1, h2, h3, fun b hb => h6 b (by omega) (h.z0 b hb), ⟨h6 g hg h.zg.1, h.zg.2⟩, fun r hr => ?_, h.ll, h.lb, fun hp => ?_, fun h0 b off e => ?_, h.cap⟩⟩
  · exact hd.keep b (by omega) (h.z0 b hb) (by have := h.zg.2; omega) (fun e => by have := (h.zr b e).2; omega)
  · injection hr with hr
    subst hr
    refine ⟨h4, ?_⟩
    rcases h5 with h7 | h7
    · exact (h.zr r' h7.symm).2
    · omega
  · obtain ⟨bc, e1, e2, e3, e4, e5, e6, e7⟩ := h.row hp
    have hl := e2.lt
    refine ⟨bc, e1, e2.eq (hd.keep bc hl e5 e6 e7), e3, e4, h6 bc hl e5, e6, fun e => ?_⟩
    injection e with e
    rcases h5 with h7 | h7
    · exact e7 (h7.symm.trans (by rw [e]))
    · omega
  · have h8 := h.none_ h0 b off e
    refine ⟨Nat.lt_of_lt_of_le h8.1 hd.z0.size, h8.2.1, fun e => ?_⟩
    injection e with e
    rcases h5 with h7 | h7
    · exact h8.2.2 (h7.symm.trans (by rw [e]))
    · have := h8.1; omega
end
/-- a byte is turned -/
theorem DS.set_ {w W : World} {g G n c bc : Nat} {L : List Int} {rb : Option Nat} {R : List Int} {Z : Nat → Prop} {T m : Nat} (h : DS w g G (some ⟨bc, 0, none⟩) n c L rb R Z T m W) (i : Nat) (hi : i < n) (y : Int) (hy : 0 ≤ y ∧ y < 256) : DS w g G (some ⟨bc, 0, none⟩) n c (L.set i y) rb R Z T m (W.setCell ⟨bc, i, none⟩ (.int .u8 y)) := by
  obtain ⟨bc', e1, e2, e3, e4, e5, e6, e7⟩ := h.row (by omega)
  injection e1 with e1
  injection e1 with e1
  subst e1
  have ht : Touch bc W (W.setCell ⟨bc, i, none⟩ (.int .u8 y)) := Touch.set_ W i _
  have hroom : Room (W.setCell ⟨bc, i, none⟩ (.int .u8 y)) g rb R := by
    rcases h.room with ⟨h1, h2, h3⟩ | ⟨r, h1, h2, h3, h4⟩
    · exact .inl ⟨h1, h2, (ht.block g h3.lt (fun e => e6 e.symm)).trans h3⟩
    · exact .inr ⟨r, h1, h2, (ht.block r h3.lt (fun e => e7 (by rw [h1, e]))).trans h3, (ht.block g h4.lt (fun e => e6 e.symm)).trans h4⟩
  refine ⟨h.below.setCell e4 _, hroom, h.len, ⟨h.bk.use.far ht.size fun b hb hz => ht.block b hb (fun e => hz (e ▸ e5))⟩, h.z0, h.zg, h.zr, by rw [List.length_set]; exact h.ll, fun x hx => ?_, fun _ => ⟨bc, rfl, e2.set_ i y (by rw [h.ll]; exact hi), e3, e4, e5, e6, e7⟩, fun h0 => by omega, h.cap⟩
  rcases List.mem_or_eq_of_mem_set hx with h1 | h1
  · exact h.lb x h1
  · rw [h1]; exact hy
/-- the numbers that turn -/
structure TurnAt (w : World) (A : Option Addr) (n : Nat) : Prop where
  at_ : ∀ i, i < n → ∃ b off v, A = some ⟨b, off, none⟩ ∧ b < w.heap.size ∧ w.cell? ⟨b, off + i, none⟩ = some (.int .i64 v) ∧ -9223372036854775808 ≤ v ∧ v ≤ 9223372036854775807
set_option maxHeartbeats 8000000 in
theorem packDecodes_any (w : World) (A : Option Addr) (n c : Nat) (L : List Int) (At : Option Addr) (nt ct : Nat) (hS : Sl w A n c L) (hY : Bytes L) (hn : n ≤ 1048576) (ht : TurnAt w At nt) (hnt : nt ≤ 1048576) :
    Calls Try.prog 4 #[.slice A n c, .slice At nt ct] w (RetB w (.bool true)) := by
  have HS := Lib.hid hS
  have HY := Lib.hid hY
  have HLN := Lib.hid hS.len.out
  have HT := Lib.hid ht
  clear hS hY ht
  go_enter Try.func4, Try.ntmps4
  go_upto_region 3 with (go_at_call 5; refine (awake_any w).mono ?_; rintro e w3 ⟨rfl, hB3⟩)
  have hL4 := Blk.new w3 28 #[.slice none 0 0]
  have hb4 : Below w3.heap.size w3 (w3.alloc (.cells #[.slice none 0 0] 28)) := (Below.refl _ _).alloc (Nat.le_refl _) _
  have HL4 := Lib.hid hL4
  have HB4 := Lib.hid hb4
  have HB3 := Lib.hid hB3
  clear hL4 hb4 hB3
  go_upto_region 4 with fail
  obtain ⟨w4, hw4⟩ : ∃ u, u = w3.alloc (.cells #[.slice none 0 0] 28) := ⟨_, rfl⟩
  obtain ⟨g, hg⟩ : ∃ z, z = w3.heap.size := ⟨_, rfl⟩
  have HG := Lib.hid (show g = w3.heap.size ∧ w4.heap.size = w3.heap.size + 1 from ⟨hg, by rw [hw4]; simp⟩)
  rw [← hw4] at HL4 HB4 ⊢
  rw [← hg] at HL4 ⊢
  clear hw4 hg
  have hG5 := Blk.new w4 33 #[.int .i64 0, .int .i64 0, .slice none 0 0, .slice none 0 0, .slice none 0 0, .slice none 0 0, .bool false]
  have hb5 : Below w4.heap.size w4 (w4.alloc (.cells #[.int .i64 0, .int .i64 0, .slice none 0 0, .slice none 0 0, .slice none 0 0, .slice none 0 0, .bool false] 33)) := (Below.refl _ _).alloc (Nat.le_refl _) _
  have HG5 := Lib.hid hG5
  have HB5 := Lib.hid hb5
  clear hG5 hb5
  go_upto_region 5 with fail
  obtain ⟨w5, hw5⟩ : ∃ u, u = w4.alloc (.cells #[.int .i64 0, .int .i64 0, .slice none 0 0, .slice none 0 0, .slice none 0 0, .slice none 0 0, .bool false] 33) := ⟨_, rfl⟩
  obtain ⟨G, hG⟩ : ∃ z, z = w4.heap.size := ⟨_, rfl⟩
  have HGG := Lib.hid (show G = w4.heap.size ∧ w5.heap.size = w4.heap.size + 1 from ⟨hG, by rw [hw5]; simp⟩)
  rw [← hw5] at HG5 HB5 ⊢
  rw [← hG] at HG5 ⊢
  clear hw5 hG
  have HBW5 := Lib.hid (show Below w.heap.size w w5 from HB3.out.trans ((HB4.out.trans (HB5.out.mono HB4.out.size)).mono HB3.out.size))
  go_upto_region 6 with (go_at_call 17; refine (copyBytes_own w5 A n c L (HS.out.up HBW5.out) (by omega)).mono ?_; (rintro e w6 ⟨v6, rfl, hO6, hB6⟩); (obtain ⟨A2, c2, rfl, hs6, hb6⟩ := own_sl (w := w) hO6); (have HO6 := Lib.hid hO6); (have HS6 := Lib.hid hs6); (have HA6 := Lib.hid hb6); (have HB6 := Lib.hid hB6); clear hO6 hs6 hb6 hB6; rw [HLN.out])
  have HS0 := Lib.hid (show ∃ Z, DS w g G A2 n c2 L none [] Z 0 0 w6 from by
    have h5 : Bk.Use (fun b => b < w5.heap.size ∧ b ≠ G) w5 G 0 0 w5 := Bk.Use.new HG5.out
    have s3 := HB3.out.size
    have s5 := HB5.out.size
    have s6 := HB6.out.size
    have hg1 := HG.out
    have hg2 := HGG.out
    refine ⟨_, ⟨HBW5.out.trans (HB6.out.mono HBW5.out.size), .inl ⟨rfl, rfl, (HL4.out.below (HB5.out) (by omega)).below HB6.out (by omega)⟩, by simp, ⟨use_grow h5 ((KZ.refl _ w5).up HB6.out)⟩, fun b hb => .inl ⟨by omega, by omega⟩, ⟨.inl ⟨by omega, by omega⟩, by omega⟩, (fun r hr => by cases hr), HLN.out, HY.out, fun hp => ?_, fun h0 b off e => ?_, ?_⟩⟩
    · obtain ⟨bc, cc, e, hbc, hcc, hrw⟩ := Rw.of_own HO6.out (by rw [HLN.out]; exact hp)
      injection e with e1 e2 e3
      subst e3
      exact ⟨bc, e1, hrw, by rw [HLN.out] at hcc; exact hcc, by omega, .inr ⟨by omega, hrw.lt⟩, by omega, by simp⟩
    · have h7 := HA6.out b off e
      exact ⟨HS6.out.lt b off e, by omega, by simp⟩
    · have := HS6.out.cap; rw [HLN.out] at this; exact this)
  clear HB3 HB4 HB5 HB6 HL4 HG5 HBW5 HO6 HS6 HA6 HG HGG
  obtain ⟨Z0, hS0⟩ := HS0.out
  have HS1 := Lib.hid hS0
  clear HS0 hS0
  go_wp2_with fail
  go_loopw [8] (fun a8 wr => ∃ (k : Nat) (Lc : List Int) (rb : Option Nat) (R : List Int) (Z : Nat → Prop), a8 = .int .i64 ((k : Int) - 1) ∧ k ≤ 9 ∧ Hid (DS w g G A2 n c2 Lc rb R Z (6291456 * k) (12 * k) wr)) (fun a8 _ => (8 - intOf a8).toNat)
  case atStart => exact ⟨0, L, none, [], Z0, rfl, by decide, HS1⟩
  case round =>
    obtain ⟨k, Lc, rb, R, Z, rfl, hk, HD⟩ := hrel
    clear HS1 HLN HY HS
    by_cases hlt : (k : Int) - 1 < nt ∧ k ≤ 8
    case neg =>
      have hd := Lib.hid (Bk.done_any Z wr G _ _ wr wr HD.out.bk.use (Below.refl _ _) (by omega))
      rcases (show ¬ ((k : Int) - 1 < nt) ∨ ((k : Int) - 1 < nt ∧ ¬ ((k : Int) - 1 < 8)) by omega) with t1 | ⟨t1, t2⟩
      all_goals
        clear hlt
        go_wp2_with (go_at_call 16; refine hd.out.mono ?_; rintro e w8 ⟨rfl, h1, h2⟩)
        go_ret
        exact ⟨rfl, HD.out.below.trans ⟨h1.os, h1.tape, h1.output, h1.size, fun b hb => h2 b (HD.out.z0 b hb)⟩⟩
    obtain ⟨t1, t2⟩ := hlt
    have t3 : (k : Int) - 1 < 8 := by omega
    go_upto_region 9 with fail
    go_cut [33] (fun a33 wx => wr = wx ∧ a33 = .bool (decide (1 ≤ k) && decide (0 < n)))
    case first =>
      by_cases hk1 : 1 ≤ k
      · have f1 : ¬ ((k : Int) - 1 < 0) := by omega
        have f1' : (0 : Int) ≤ (k : Int) - 1 := by omega
        by_cases hn0 : 0 < n
        · have f2 : (0 : Int) < n := by omega
          go_wp2_with fail
          go_meet
          case rel => exact ⟨rfl, by rw [decide_eq_true hk1, decide_eq_true hn0]; rfl⟩
        · have f2 : ¬ ((0 : Int) < n) := by omega
          go_wp2_with fail
          go_meet
          case rel => exact ⟨rfl, by rw [decide_eq_true hk1, decide_eq_false hn0]; rfl⟩
      · have f1 : ¬ ((0 : Int) ≤ (k : Int) - 1) := by omega
        go_wp2_with fail
        go_meet
        case rel => exact ⟨rfl, by rw [decide_eq_false hk1]; rfl⟩
    case rest =>
      obtain ⟨rfl, rfl⟩ := hcut
      go_upto_if 33 with fail
      go_cut [] (fun wx => ∃ W, W = wx ∧ ∃ Lc Z, DS w g G A2 n c2 Lc rb R Z (6291456 * k) (12 * k) W)
      case first =>
        by_cases hkn : 1 ≤ k ∧ 0 < n
        case neg =>
          rw [show (decide (1 ≤ k) && decide (0 < n)) = false by rw [Bool.and_eq_false_iff]; rcases Nat.lt_or_ge k 1 with h5 | h5; exact .inl (decide_eq_false (by omega)); exact .inr (decide_eq_false (by omega))]
          go_wp2_with fail
          go_meet
          case rel => exact ⟨_, rfl, Lc, _, HD.out⟩
        obtain ⟨hk1, hn0⟩ := hkn
        rw [decide_eq_true hk1, decide_eq_true hn0]
        obtain ⟨bc, rfl, hrw, hnc, hbw, hzb, hbg, hbr⟩ := HD.out.row hn0
        obtain ⟨bt, ot, v, rfl, hbt, hcv, hv0, hv1⟩ := HT.out.at_ (k - 1) (by omega)
        obtain ⟨mm, hmm, hm2⟩ := and62 v
        obtain ⟨ix, hix⟩ : ∃ z, z = mm % n := ⟨_, rfl⟩
        have hixn : ix < n := by rw [hix]; exact Nat.mod_lt _ hn0
        have HLL := Lib.hid HD.out.ll
        obtain ⟨x, hx⟩ : ∃ x, x = Lc[ix]?.getD 0 := ⟨_, rfl⟩
        have HRW := Lib.hid hrw
        have HXX := Lib.hid (show ∀ W : World, W.heap[bc]? = wr.heap[bc]? → W.cell? ⟨bc, ix, none⟩ = some (.int .u8 x) ∧ W.frozen? ⟨bc, ix, none⟩ = false from fun W h => by
          have h5 := hrw.eq h
          rw [hx]; exact ⟨h5.cell ix (by rw [HLL.out]; exact hixn), h5.frozen ix⟩)
        have HCV := Lib.hid (show ∀ W, Below w.heap.size w W → W.cell? ⟨bt, ot + (k - 1), none⟩ = some (.int .i64 v) from fun W h => (World.cell?_of_block (h.block bt hbt)).trans hcv)
        have HBX := Lib.hid (show 0 ≤ x ∧ x < 256 by rw [hx, List.getElem?_eq_getElem (by rw [HLL.out]; exact hixn)]; exact HD.out.lb _ (List.getElem_mem _))
        have HNZ := Lib.hid (And.intro hbw (And.intro hzb (And.intro hbg (And.intro hbr hnc))))
        have d1 : (mm : Int).tmod n = ix := by rw [hix, Int.tmod_eq_emod_of_nonneg (by omega)]; rfl
        have d2 : (mm : Int) % n = ix := by rw [hix]; rfl
        have d3 : ¬ ((n : Int) = 0) := by omega
        have d4 : ¬ (n = 0) := by omega
        have d5 : (ix : Int) < n := by omega
        have e1 : ((k : Int) - 1).toNat = k - 1 := by omega
        have e2 : (0 : Int) ≤ (k : Int) - 1 := by omega
        have e3 : ¬ ((k : Int) - 1 < 0) := by omega
        have e4 : (1 : Int) ≤ (k : Int) := by omega
        obtain ⟨hx0, hx1⟩ := HBX.out
        clear hrw hcv hx hix hbw hzb hbg hbr hnc hbt
        go_upto_region 10 with fail
        refine wp_region_tail 19 (by kernel_rfl) (by kernel_rfl) fun W hW => ?_
        simp only [List.take_succ_cons, List.take_zero, List.drop_succ_cons, List.drop_zero]
        have y0 : W.cell? ⟨bc, ix, none⟩ = some (.int .u8 x) := (HXX.out W (by rw [hW]; rfl)).1
        have y1 : W.frozen? ⟨bc, ix, none⟩ = false := (HXX.out W (by rw [hW]; rfl)).2
        have y2 : W.cell? ⟨bt, ot + (k - 1), none⟩ = some (.int .i64 v) := HCV.out W (by rw [hW]; exact below_drewN HD.out.below 1)
        have HWD := Lib.hid hW
        clear hW
        iterate 19 still_step
        refine wpStill_nil ?_
        go_wp2_with fail
        have HDW := Lib.hid (HD.out.up (show Below wr.heap.size wr W by rw [HWD.out]; exact below_drewN (Below.refl _ _) 1))
        go_meet
        case rel => exact ⟨_, rfl, _, _, HDW.out.set_ ix hixn _ (Ln.xor_u8 _ _)⟩
      case rest =>
        clear HD
        obtain ⟨w2, hw2, Lc2, Z2, hD0⟩ := hcut
        subst hw2
        have HD0 := Lib.hid hD0
        have HC1 := Lib.hid (decodes_any w2 A2 n c2 Lc2 hD0.sl hD0.lb hn g G _ _ _ _ _ HD0.out.room HD0.out.len HD0.out.bk HD0.out.zg.1 (fun r h => (HD0.out.zr r h).1) HD0.out.apart (by omega) (by omega))
        have HLL := Lib.hid hD0.ll
        clear hD0
        by_cases hn4 : 4 ≤ n
        · obtain ⟨bc, rfl, -, hnc, -⟩ := HD0.out.row (by omega)
          have n4 : (4 : Int) ≤ (n : Int) := by omega
          have n4c : (4 : Int) ≤ (c2 : Int) := by omega
          have n4n : 4 ≤ c2 := by omega
          by_cases hc4 : c2 = 4
          case pos =>
            obtain rfl : n = 4 := by omega
            subst hc4
            go_wp2_with (first
              | (go_at_call 18; refine HC5.out.mono ?_
                 (rintro e w8 ⟨rfl, hE⟩)
                 (obtain ⟨r5, R5, Z5, hD5⟩ := HD4.out.next hE)
                 (have HD5 := Lib.hid hD5)
                 clear hE hD5 HC5)
              | (go_at_call 19; refine HC4.out.mono ?_
                 (rintro e w7 ⟨A7, n7, c7, rfl, hs7, hb7, hB7⟩)
                 (have HD4 := Lib.hid (HD6.out.up hB7))
                 (have HC5 := Lib.hid (decodes_any w7 A7 n7 c7 (sumdL [87, 80, 75, 49]) hs7 (sumdL_bytes HB4.out) (by have h1 := hs7.len.out; rw [sumdL_len, HL6.out] at h1; omega) g G _ _ _ _ _ HD4.out.room HD4.out.len HD4.out.bk HD4.out.zg.1 (fun r h => (HD4.out.zr r h).1) (fun b off e => by have h1 := hb7 b off e; have h2 := HD6.out.glt; exact ⟨by omega, fun e2 => by have := HD6.out.rlt b e2; omega⟩) (by omega) (by omega)))
                 clear hs7 hb7 hB7 HC4)
              | (go_at_call 18; refine HC3.out.mono ?_
                 (rintro e w5 ⟨rfl, hE⟩)
                 (obtain ⟨r3, R3, Z3, hD3⟩ := HD2.out.next hE)
                 (have HD3 := Lib.hid hD3)
                 (have hbx := below_box w5 (.cells #[.int .u8 87, .int .u8 80, .int .u8 75, .int .u8 49] 5))
                 (have HD6 := Lib.hid (hD3.up hbx))
                 (have HB4 := Lib.hid (show Bytes [87, 80, 75, 49] from fun x hx => by simp at hx; unfold IsB; omega))
                 (have HC4 := Lib.hid (summed_any (w5.alloc (.cells #[.int .u8 87, .int .u8 80, .int .u8 75, .int .u8 49] 5)) (some ⟨w5.heap.size, 0, none⟩) 4 4 [87, 80, 75, 49] ⟨Lib.hid rfl, Nat.le_refl _, (ByteBlk.new w5 [87, 80, 75, 49]).at_, fun b off e => by injection e with e; injection e with e1; subst e1; simp⟩ HB4.out (by omega)))
                 (have HL6 := Lib.hid (show ([87, 80, 75, 49] : List Int).length = 4 from rfl))
                 clear hbx
                 clear hE hD3 HC3)
              | (go_at_call 19; refine HC2.out.mono ?_
                 (rintro e w4 ⟨A4, n4', c4, rfl, hs4, hb4, hB4⟩)
                 (have HD2 := Lib.hid (HD1.out.up hB4))
                 (have HC3 := Lib.hid (decodes_any w4 A4 n4' c4 (sumdL Lc2) hs4 (sumdL_bytes HD1.out.lb) (by have h1 := hs4.len.out; rw [sumdL_len, HLL.out] at h1; omega) g G _ _ _ _ _ HD2.out.room HD2.out.len HD2.out.bk HD2.out.zg.1 (fun r h => (HD2.out.zr r h).1) (fun b off e => by have h1 := hb4 b off e; have h2 := HD1.out.glt; exact ⟨by omega, fun e2 => by have := HD1.out.rlt b e2; omega⟩) (by omega) (by omega)))
                 clear hs4 hb4 hB4 HC2)
              | (go_at_call 18; refine HC1.out.mono ?_
                 (rintro e w3 ⟨rfl, hE⟩)
                 (obtain ⟨r1, R1, Z1, hD1⟩ := HD0.out.next hE)
                 (have HD1 := Lib.hid hD1)
                 (have HC2 := Lib.hid (summed_any w3 _ 4 4 Lc2 hD1.sl hD1.lb hn))
                 clear hE hD1 HC1))
            go_roundw
            case rel => exact ⟨k + 1, Lc2, _, _, _, by go_num, by omega, Lib.hid (HD5.out.mono (by omega) (by omega))⟩
            case measure => simp [intOf]; omega
          go_wp2_with (first
            | (go_at_call 18; refine HC5.out.mono ?_
               (rintro e w8 ⟨rfl, hE⟩)
               (obtain ⟨r5, R5, Z5, hD5⟩ := HD4.out.next hE)
               (have HD5 := Lib.hid hD5)
               clear hE hD5 HC5)
            | (go_at_call 19; refine HC4.out.mono ?_
               (rintro e w7 ⟨A7, n7, c7, rfl, hs7, hb7, hB7⟩)
               (have HD4 := Lib.hid (HD6.out.up hB7))
               (have HC5 := Lib.hid (decodes_any w7 A7 n7 c7 (sumdL ([87, 80, 75, 49] ++ Lc2.drop 4)) hs7 (sumdL_bytes HB4.out) (by have h1 := hs7.len.out; rw [sumdL_len, HL6.out] at h1; omega) g G _ _ _ _ _ HD4.out.room HD4.out.len HD4.out.bk HD4.out.zg.1 (fun r h => (HD4.out.zr r h).1) (fun b off e => by have h1 := hb7 b off e; have h2 := HD6.out.glt; exact ⟨by omega, fun e2 => by have := HD6.out.rlt b e2; omega⟩) (by omega) (by omega)))
               clear hs7 hb7 hB7 HC4)
            | (at_builtin; (refine append_bytes_gR Try.underlying22 byte_info _ rfl (.tmp 71) (.tmp 73) rfl w5.heap.size _ [87, 80, 75, 49] rfl HOB.out _ (n - 4) (c2 - 4) (Lc2.drop 4) rfl (by rw [List.length_drop, HLL.out]) HBD.out (by simp; omega) (by simp) ?_)
               (intro v6 w6 hO6 hB6)
               (have hb6 : Below w5.heap.size w5 w6 := HBX.out.trans hB6)
               (have HD6 := Lib.hid (HD3.out.up hb6))
               (obtain ⟨A6, c6, rfl, hs6, -⟩ := own_sl (w := w) hO6)
               (have hl6 : ([87, 80, 75, 49] ++ Lc2.drop 4 : List Int).length = n := by simp only [List.length_append, List.length_drop, HLL.out, List.length_cons, List.length_nil]; omega)
               rw [hl6] at hs6 ⊢
               (have HC4 := Lib.hid (summed_any w6 A6 _ c6 ([87, 80, 75, 49] ++ Lc2.drop 4) hs6 (HB4.out) (by omega)))
               (have HL6 := Lib.hid hl6)
               clear hO6 hB6 hb6 hs6 hl6 HOB HBD HBX)
            | (go_at_call 18; refine HC3.out.mono ?_
               (rintro e w5 ⟨rfl, hE⟩)
               (obtain ⟨r3, R3, Z3, hD3⟩ := HD2.out.next hE)
               (have HD3 := Lib.hid hD3)
               (have HOB := Lib.hid (own_box w5 [87, 80, 75, 49] 4 rfl (by decide)))
               (have HBX := Lib.hid (below_box w5 (.cells #[.int .u8 87, .int .u8 80, .int .u8 75, .int .u8 49] 5)))
               (have HBD := Lib.hid (show BytesAt (w5.alloc (.cells #[.int .u8 87, .int .u8 80, .int .u8 75, .int .u8 49] 5)) (some ⟨bc, 4, none⟩) (Lc2.drop 4) from bytes_part (p := 4) (m := n - 4) (off := 0) ((hD3.sl.up HBX.out).byt) (by rw [List.take_of_length_le]; rw [List.length_drop, HLL.out]; exact Nat.le_refl _) (by rw [HLL.out]; omega)))
               (have HB4 := Lib.hid (show Bytes ([87, 80, 75, 49] ++ Lc2.drop 4) from (show Bytes [87, 80, 75, 49] from fun x hx => by simp at hx; unfold IsB; omega).app (hD3.lb.drop 4)))
               clear hE hD3 HC3)
            | (go_at_call 19; refine HC2.out.mono ?_
               (rintro e w4 ⟨A4, n4', c4, rfl, hs4, hb4, hB4⟩)
               (have HD2 := Lib.hid (HD1.out.up hB4))
               (have HC3 := Lib.hid (decodes_any w4 A4 n4' c4 (sumdL Lc2) hs4 (sumdL_bytes HD1.out.lb) (by have h1 := hs4.len.out; rw [sumdL_len, HLL.out] at h1; omega) g G _ _ _ _ _ HD2.out.room HD2.out.len HD2.out.bk HD2.out.zg.1 (fun r h => (HD2.out.zr r h).1) (fun b off e => by have h1 := hb4 b off e; have h2 := HD1.out.glt; exact ⟨by omega, fun e2 => by have := HD1.out.rlt b e2; omega⟩) (by omega) (by omega)))
               clear hs4 hb4 hB4 HC2)
            | (go_at_call 18; refine HC1.out.mono ?_
               (rintro e w3 ⟨rfl, hE⟩)
               (obtain ⟨r1, R1, Z1, hD1⟩ := HD0.out.next hE)
               (have HD1 := Lib.hid hD1)
               (have HC2 := Lib.hid (summed_any w3 _ n c2 Lc2 hD1.sl hD1.lb hn))
               clear hE hD1 HC1))
          go_roundw
          case rel => exact ⟨k + 1, Lc2, _, _, _, by go_num, by omega, Lib.hid (HD5.out.mono (by omega) (by omega))⟩
          case measure => simp [intOf]; omega
        · have n4 : ¬ ((4 : Int) ≤ (n : Int)) := by omega
          go_wp2_with (first
            | (go_at_call 18; refine HC3.out.mono ?_
               (rintro e w5 ⟨rfl, hE⟩)
               (obtain ⟨r3, R3, Z3, hD3⟩ := HD2.out.next hE)
               (have HD3 := Lib.hid hD3)
               clear hE hD3 HC3)
            | (go_at_call 19; refine HC2.out.mono ?_
               (rintro e w4 ⟨A4, n4', c4, rfl, hs4, hb4, hB4⟩)
               (have HD2 := Lib.hid (HD1.out.up hB4))
               (have HC3 := Lib.hid (decodes_any w4 A4 n4' c4 (sumdL Lc2) hs4 (sumdL_bytes HD1.out.lb) (by have h1 := hs4.len.out; rw [sumdL_len, HLL.out] at h1; omega) g G _ _ _ _ _ HD2.out.room HD2.out.len HD2.out.bk HD2.out.zg.1 (fun r h => (HD2.out.zr r h).1) (fun b off e => by have h1 := hb4 b off e; have h2 := HD1.out.glt; exact ⟨by omega, fun e2 => by have := HD1.out.rlt b e2; omega⟩) (by omega) (by omega)))
               clear hs4 hb4 hB4 HC2)
            | (go_at_call 18; refine HC1.out.mono ?_
               (rintro e w3 ⟨rfl, hE⟩)
               (obtain ⟨r1, R1, Z1, hD1⟩ := HD0.out.next hE)
               (have HD1 := Lib.hid hD1)
               (have HC2 := Lib.hid (summed_any w3 _ n c2 Lc2 hD1.sl hD1.lb hn))
               clear hE hD1 HC1))
          go_roundw
          case rel => exact ⟨k + 1, Lc2, _, _, _, by go_num, by omega, Lib.hid (HD3.out.mono (by omega) (by omega))⟩
          case measure => simp [intOf]; omega
end Go.Proofs.Ytkfcfoidaalnlaa.Pak
