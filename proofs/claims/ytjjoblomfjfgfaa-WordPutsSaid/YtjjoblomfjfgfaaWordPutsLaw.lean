/- WordPuts: the walk. -/
import Derived.Test.YtjjoblomfjfgfaaPtA
namespace Go.Proofs.Ytjjoblomfjfgfaa
open Go.ChangeShapes Go.WideShapes Go.ChangeAt Go.RowKit
open Bits
set_option linter.unusedVariables false
set_option linter.unusedSimpArgs false

/-- the bytes of a number: none, where the size is none -/
def putL (s v : Int) : List Int := if 1 ≤ s ∧ s ≤ 8 then bytesL v s.toNat else []
theorem putL_le (s v : Int) : (putL s v).length ≤ 8 := by
  unfold putL
  split
  · rw [bytesL_length]; omega
  · simp
def PutOf (L : List Int) (w : World) (e : Ending) (w' : World) : Prop := ∃ x, e = .returned x ∧ OwnB w' w.heap.size x L ∧ Below w.heap.size w w'
theorem put_any (s v : Int) (w : World) : Calls Try.prog 5 #[.int .i64 s, .int .i64 v] w (PutOf (putL s v) w) := by
  by_cases h : 1 ≤ s ∧ s ≤ 8
  · obtain ⟨k, rfl⟩ : ∃ k : Nat, s = k := ⟨s.toNat, by omega⟩
    unfold putL
    rw [if_pos h, Int.toNat_natCast]
    refine (put_yes k v (by omega) (by omega) w).mono ?_
    rintro e w' ⟨rfl, hb, hB, hs⟩
    have hl := bytesL_length v k
    have : OwnB w' w.heap.size (.slice (some ⟨w.heap.size, 0, none⟩) (bytesL v k).length (bytesL v k).length) (bytesL v k) :=
      ⟨by simp, .inr ⟨w.heap.size, _, _, rfl, Nat.le_refl _, hb, Nat.le_refl _, by rw [hl]; unfold maxLen; omega, by simp, by simp [List.take_of_length_le]⟩⟩
    rw [hl] at this
    exact ⟨_, rfl, this, hB⟩
  · unfold putL
    rw [if_neg h]
    refine (put_no s v (by omega) w).mono ?_
    rintro e w' ⟨rfl, rfl⟩
    exact ⟨_, rfl, OwnB.nil _ _, Below.refl _ _⟩
theorem refPut_any (s v : Int) (w : World) : Calls Try.prog 7 #[.int .i64 s, .int .i64 v] w (PutOf (putL s v) w) := by
  by_cases h : 1 ≤ s ∧ s ≤ 8
  · obtain ⟨k, rfl⟩ : ∃ k : Nat, s = k := ⟨s.toNat, by omega⟩
    unfold putL
    rw [if_pos h, Int.toNat_natCast]
    exact refPut_yes k v (by omega) (by omega) w
  · unfold putL
    rw [if_neg h]
    exact refPut_no s v (by omega) w
/-- what stands at each round's beginning -/
def Puts0 (w : World) (G T m : Nat) (wr : World) : Prop := Below w.heap.size w wr ∧ ∃ Z : Nat → Prop, (∀ b, b < w.heap.size → Z b) ∧ Bk.Use Z wr G T m wr
/-- the state of a round behind the three calls of Put -/
structure Puts (w : World) (G T m n : Nat) (Ax Ay Az : Option Addr) (cx cy cz : Nat) (L : List Int) (w4 : World) (Z : Nat → Prop) : Prop where
  use : Bk.Use Z w4 G T m w4
  old : ∀ b, b < w.heap.size → Z b
  below : Below w.heap.size w w4
  ox : OwnB w4 0 (.slice Ax n cx) L
  oy : OwnB w4 0 (.slice Ay n cy) L
  zx : ∀ b, (Value.slice Ax n cx).ownBlock = some b → Z b
  zy : ∀ b, (Value.slice Ay n cy).ownBlock = some b → Z b
  xo : ∀ b, (Value.slice Ax n cx).ownBlock = some b → w.heap.size ≤ b
  yo : ∀ b, (Value.slice Ay n cy).ownBlock = some b → w.heap.size ≤ b
  xy : ∀ b, (Value.slice Ax n cx).ownBlock = some b → (Value.slice Ay n cy).ownBlock ≠ some b
  bx : BytesAt w4 Ax L
  by_ : BytesAt w4 Ay L
  bz : BytesAt w4 Az L
/-- the state of a round behind the first Own -/
structure Puts2 (w : World) (G T m n : Nat) (Ay : Option Addr) (cy : Nat) (L : List Int) (w4 w6 : World) (Z : Nat → Prop) : Prop where
  use : Bk.Use Z w4 G T m w6
  old : ∀ b, b < w.heap.size → Z b
  below : Below w.heap.size w w6
  oy : OwnB w6 0 (.slice Ay n cy) L
  zy : ∀ b, (Value.slice Ay n cy).ownBlock = some b → Z b
  yo : ∀ b, (Value.slice Ay n cy).ownBlock = some b → w.heap.size ≤ b
theorem OwnB.same {w w' : World} {base : Nat} {v : Value} {L : List Int} (h : OwnB w base v L) (hk : ∀ b, v.ownBlock = some b → w'.heap[b]? = w.heap[b]?) : OwnB w' base v L := by
  obtain ⟨h1, h2⟩ := h
  refine ⟨h1, ?_⟩
  rcases h2 with h2 | ⟨g, cap, cur, rfl, hg, hh, h3⟩
  · exact .inl h2
  · exact .inr ⟨g, cap, cur, rfl, hg, (hk g rfl).trans hh, h3⟩
theorem below_more {w w4 w6 : World} {Z : Nat → Prop} (h : Below w.heap.size w w4) (h0 : Below 0 w4 w6) (hk : ∀ b, Z b → w6.heap[b]? = w4.heap[b]?) (hz : ∀ b, b < w.heap.size → Z b) : Below w.heap.size w w6 :=
  h.trans ⟨h0.os, h0.tape, h0.output, h0.size, fun b hb => hk b (hz b hb)⟩
theorem puts_state {w wr w2 w3 w4 : World} {G T m n : Nat} {Ax Ay Az : Option Addr} {cx cy cz : Nat} {L : List Int} (hU : Puts0 w G T m wr) (hB2 : Below wr.heap.size wr w2) (hB3 : Below w2.heap.size w2 w3) (hB4 : Below w3.heap.size w3 w4)
    (hx : OwnB w2 wr.heap.size (.slice Ax n cx) L) (hy : OwnB w3 w2.heap.size (.slice Ay n cy) L) (hz : OwnB w4 w3.heap.size (.slice Az n cz) L) (hn : L.length = n) : ∃ Z, Puts w G T m n Ax Ay Az cx cy cz L w4 Z := by
  obtain ⟨hb, Z, hz0, hu⟩ := hU
  have s2 := hB2.size
  have s3 := hB3.size
  have s4 := hB4.size
  have s0 := hb.size
  have hB34 : Below w2.heap.size w2 w4 := hB3.trans (hB4.mono s3)
  have hBr : Below wr.heap.size wr w4 := hB2.trans (hB34.mono s2)
  have ox : OwnB w4 wr.heap.size (.slice Ax n cx) L := hx.stab (StabI.below hB34) (by simp)
  have oy : OwnB w4 w2.heap.size (.slice Ay n cy) L := hy.stab (StabI.below hB4) (by simp)
  refine ⟨_, hu.more hBr, fun b h => .inl (hz0 b h), hb.trans (hBr.mono s0), ox.mono (Nat.zero_le _), oy.mono (Nat.zero_le _), fun b h => .inr ?_, fun b h => .inr ?_, fun b h => ?_, fun b h => ?_, fun b h e => ?_, ownB_bytes ox, ownB_bytes oy, ownB_bytes hz⟩
  · have := ox.lt h; omega
  · have := oy.lt h; omega
  · have := (ox.lt h).1; omega
  · have := (oy.lt h).1; omega
  · have := (hx.lt h).2; have := (oy.lt e).1; omega
theorem puts_next {w w4 w6 : World} {G T m T' m' n : Nat} {Ax Ay Az : Option Addr} {cx cy cz : Nat} {L : List Int} {Z : Nat → Prop} (h : Puts w G T m n Ax Ay Az cx cy cz L w4 Z) (hU : Bk.Use (fun b => Z b ∧ (Value.slice Ax n cx).ownBlock ≠ some b) w4 G T' m' w6) : ∃ Z', Puts2 w G T' m' n Ay cy L w4 w6 Z' := by
  obtain ⟨h0, hk⟩ := hU.below
  have old : ∀ b, b < w.heap.size → Z b ∧ (Value.slice Ax n cx).ownBlock ≠ some b := fun b hb => ⟨h.old b hb, fun e => by have := h.xo b e; omega⟩
  have zy : ∀ b, (Value.slice Ay n cy).ownBlock = some b → Z b ∧ (Value.slice Ax n cx).ownBlock ≠ some b := fun b hb => ⟨h.zy b hb, fun e => h.xy b e hb⟩
  exact ⟨_, hU, old, below_more h.below h0 hk old, h.oy.same fun b hb => hk b (zy b hb), zy, h.yo⟩
theorem puts_last {w w4 w6 w7 : World} {G T m T' m' n : Nat} {Ay : Option Addr} {cy : Nat} {L : List Int} {Z : Nat → Prop} (h : Puts2 w G T m n Ay cy L w4 w6 Z) (hw : Below w.heap.size w w4) (hU : Bk.Use (fun b => Z b ∧ (Value.slice Ay n cy).ownBlock ≠ some b) w4 G T' m' w7) : Puts0 w G T' m' w7 := by
  obtain ⟨h0, hk⟩ := hU.below
  have old : ∀ b, b < w.heap.size → Z b ∧ (Value.slice Ay n cy).ownBlock ≠ some b := fun b hb => ⟨h.old b hb, fun e => by have := h.yo b e; omega⟩
  exact ⟨below_more hw h0 hk old, _, fun b hb => .inl (old b hb), hU.more (Below.refl _ _)⟩
theorem Bk.Use.mono {Z : Nat → Prop} {W0 : World} {G T m T' m' : Nat} {w : World} (h : Bk.Use Z W0 G T m w) (hT : T ≤ T') (hm : m ≤ m') : Bk.Use Z W0 G T' m' w := by
  obtain ⟨cnt, tot, fv, wv, kv, fr, F, Ws, K, R, h1, h2, h3, h4, h5⟩ := h
  exact ⟨cnt, tot, fv, wv, kv, fr, F, Ws, K, R, h1, h2, by omega, by omega, by omega⟩
theorem Puts0.mono {w : World} {G T m T' m' : Nat} {wr : World} (h : Puts0 w G T m wr) (hT : T ≤ T') (hm : m ≤ m') : Puts0 w G T' m' wr := by
  obtain ⟨h1, Z, h2, h3⟩ := h
  exact ⟨h1, Z, h2, h3.mono hT hm⟩
set_option maxRecDepth 100000 in
set_option maxHeartbeats 800000 in
theorem wordPuts_walk (size : Int) (hs : -9223372036854775808 ≤ size ∧ size ≤ 9223372036854775807) (v : Int) (hv : -9223372036854775808 ≤ v ∧ v ≤ 9223372036854775807) (w : World) :
    Calls Try.prog 3 #[.int .i64 size, .int .i64 v] w fun e w' => e = .returned (.bool true) ∧ Below w.heap.size w w' := by
  have hput := Lib.hid (fun s w => put_any s v w)
  have href := Lib.hid (fun s w => refPut_any s v w)
  clear hs hv
  have hG1 := Blk.new w 26 #[.int .i64 0, .int .i64 0, .slice none 0 0, .slice none 0 0, .slice none 0 0, .slice none 0 0, .bool false]
  have HU0 := Lib.hid (show Puts0 w w.heap.size 0 0 (w.alloc (.cells #[.int .i64 0, .int .i64 0, .slice none 0 0, .slice none 0 0, .slice none 0 0, .slice none 0 0, .bool false] 26)) from ⟨(Below.refl _ _).alloc (Nat.le_refl _) _, _, fun b hb => ⟨by simp; omega, by omega⟩, Bk.Use.new hG1⟩)
  clear hG1
  go_enter Try.func3, Try.ntmps3
  go_wp2_with fail
  obtain ⟨G, hG⟩ : ∃ G, G = w.heap.size := ⟨_, rfl⟩
  rw [← hG] at HU0 ⊢
  have HG := Lib.hid hG
  clear hG
  go_loopw [6] (fun y wr => ∃ k : Nat, k ≤ 12 ∧ y = .int .i64 ((k : Int) - 1) ∧ Puts0 w G (16 * k) (4 * k) wr) (fun y _ => (11 - intOf y).toNat)
  case atStart => exact ⟨0, by omega, rfl, HU0.out⟩
  case round =>
    clear HU0
    obtain ⟨k, hk, rfl, hU⟩ := hrel
    have HU := Lib.hid hU
    clear hU
    by_cases hlt : k < 12
    · have f1 : decide ((k : Int) - 1 ≤ 10) = true := by simp; omega
      by_cases h11 : k = 11
      · have g1 : ((k : Int) - 1 == 10) = true := by simp; omega
        go_upto_region 9 with (go_at_call 5; refine (hput.out _ _).mono ?_; rintro e w2 ⟨x, rfl, hx2, hB2⟩)
        go_upto_region 10 with (go_at_call 5; refine (hput.out _ _).mono ?_; rintro e w3 ⟨y, rfl, hy3, hB3⟩)
        obtain ⟨n, hn⟩ : ∃ n, (putL size v).length = n := ⟨_, rfl⟩
        have hn8 : n ≤ 8 := by rw [← hn]; exact putL_le size v
        obtain ⟨Ax, cx, rfl, -⟩ := hx2.form
        obtain ⟨Ay, cy, rfl, -⟩ := hy3.form
        rw [hn] at hx2 hy3
        rw [hn]
        have HX := Lib.hid hx2
        have HY := Lib.hid hy3
        have HB2 := Lib.hid hB2
        have HB3 := Lib.hid hB3
        have HN := Lib.hid hn
        clear hx2 hy3 hB2 hB3 hn
        go_wp2_with (first
          | (go_at_call 7; refine (href.out _ _).mono ?_; rintro e w4 ⟨z, rfl, hz4, hB4⟩; obtain ⟨Az, cz, rfl, -⟩ := hz4.form; rw [HN.out] at hz4 ⊢; obtain ⟨Z4, hst⟩ := puts_state HU.out HB2.out HB3.out hB4 HX.out HY.out hz4 HN.out; (have HST := Lib.hid hst); clear hst hB4 hz4)
          | (go_at_call 6; refine (same_all _ _ _ _ _ _ (putL size v) HN.out (by first | exact HST.out.bx | exact HST.out.by_) (by first | exact HST.out.bz | exact HST.out.bx)).mono ?_; rintro e w5 ⟨rfl, rfl⟩)
          | (go_at_call 8; refine (Bk.own_at_ _ _ G (16 * k + n) (4 * k + 2) _ HS6.out.use (.slice Ay n cy) _ n HS6.out.oy HS6.out.zy HN.out (by omega) (by omega) (by omega)).mono ?_; rintro e w7 ⟨rfl, hU7⟩; (have HU7 := Lib.hid (puts_last HS6.out HST.out.below hU7)); clear hU7)
          | (go_at_call 8; refine (Bk.own_at_ _ _ G (16 * k) (4 * k) _ HST.out.use (.slice Ax n cx) _ n HST.out.ox HST.out.zx HN.out (by omega) (by omega) (by omega)).mono ?_; rintro e w6 ⟨rfl, hU6⟩; obtain ⟨Z6, hs6⟩ := puts_next HST.out hU6; (have HS6 := Lib.hid hs6); clear hU6 hs6))
        exact ⟨⟨12, by omega, by first | rfl | (congr 1; omega), HU7.out.mono (by omega) (by omega)⟩, by subst h11; simp [intOf]⟩
      · have g1 : ((k : Int) - 1 == 10) = false := by simp; omega
        go_upto_region 9 with (go_at_call 5; refine (hput.out _ _).mono ?_; rintro e w2 ⟨x, rfl, hx2, hB2⟩)
        go_upto_region 10 with (go_at_call 5; refine (hput.out _ _).mono ?_; rintro e w3 ⟨y, rfl, hy3, hB3⟩)
        obtain ⟨n, hn⟩ : ∃ n, (putL ((k : Int) - 1) v).length = n := ⟨_, rfl⟩
        have hn8 : n ≤ 8 := by rw [← hn]; exact putL_le ((k : Int) - 1) v
        obtain ⟨Ax, cx, rfl, -⟩ := hx2.form
        obtain ⟨Ay, cy, rfl, -⟩ := hy3.form
        rw [hn] at hx2 hy3
        rw [hn]
        have HX := Lib.hid hx2
        have HY := Lib.hid hy3
        have HB2 := Lib.hid hB2
        have HB3 := Lib.hid hB3
        have HN := Lib.hid hn
        clear hx2 hy3 hB2 hB3 hn
        go_wp2_with (first
          | (go_at_call 7; refine (href.out _ _).mono ?_; rintro e w4 ⟨z, rfl, hz4, hB4⟩; obtain ⟨Az, cz, rfl, -⟩ := hz4.form; rw [HN.out] at hz4 ⊢; obtain ⟨Z4, hst⟩ := puts_state HU.out HB2.out HB3.out hB4 HX.out HY.out hz4 HN.out; (have HST := Lib.hid hst); clear hst hB4 hz4)
          | (go_at_call 6; refine (same_all _ _ _ _ _ _ (putL ((k : Int) - 1) v) HN.out (by first | exact HST.out.bx | exact HST.out.by_) (by first | exact HST.out.bz | exact HST.out.bx)).mono ?_; rintro e w5 ⟨rfl, rfl⟩)
          | (go_at_call 8; refine (Bk.own_at_ _ _ G (16 * k + n) (4 * k + 2) _ HS6.out.use (.slice Ay n cy) _ n HS6.out.oy HS6.out.zy HN.out (by omega) (by omega) (by omega)).mono ?_; rintro e w7 ⟨rfl, hU7⟩; (have HU7 := Lib.hid (puts_last HS6.out HST.out.below hU7)); clear hU7)
          | (go_at_call 8; refine (Bk.own_at_ _ _ G (16 * k) (4 * k) _ HST.out.use (.slice Ax n cx) _ n HST.out.ox HST.out.zx HN.out (by omega) (by omega) (by omega)).mono ?_; rintro e w6 ⟨rfl, hU6⟩; obtain ⟨Z6, hs6⟩ := puts_next HST.out hU6; (have HS6 := Lib.hid hs6); clear hU6 hs6))
        exact ⟨⟨k + 1, by omega, by first | rfl | (congr 1; push_cast; omega), HU7.out.mono (by omega) (by omega)⟩, by simp [intOf]; omega⟩
    · have f1 : decide ((k : Int) - 1 ≤ 10) = false := by simp; omega
      obtain ⟨hb, Z, hz, hu⟩ := HU.out
      have hd := Lib.hid (Bk.done_any Z wr G _ _ wr wr hu (Below.refl _ _) (by omega))
      have HB0 := Lib.hid hb
      have HZ := Lib.hid hz
      clear hb hz hu
      have hp := Lib.hid (fun W => put_any 2 258 W)
      rw [show putL 2 258 = [2, 1] by decide +kernel] at hp
      go_wp2_with (first
        | (go_at_call 9; refine hd.out.mono ?_; rintro e w8 ⟨rfl, h1, h2⟩; (have HB8 := Lib.hid (below_more HB0.out h1 h2 HZ.out)); clear h1 h2)
        | (go_at_call 5; refine (hp.out _).mono ?_; rintro e w9 ⟨x, rfl, hx9, hB9⟩; obtain ⟨A9, c9, rfl, hat9⟩ := hx9.form; (have HB9 := Lib.hid (HB8.out.trans (hB9.mono HB8.out.size))); (have HA9 := Lib.hid (show ∀ o, BytesAt (w9.alloc o) A9 [2, 1] from fun o => hat9.below ((Below.refl _ _).alloc (Nat.le_refl _) o))); clear hx9 hB9 hat9)
        | (go_at_call 6; refine (same_all _ A9 2 c9 _ _ [2, 1] rfl (HA9.out _) (ByteBlk.new w9 [2, 1]).at_).mono ?_; rintro e w10 ⟨rfl, rfl⟩))
      go_ret
      exact ⟨rfl, HB9.out.alloc HB9.out.size _⟩
end Go.Proofs.Ytjjoblomfjfgfaa
