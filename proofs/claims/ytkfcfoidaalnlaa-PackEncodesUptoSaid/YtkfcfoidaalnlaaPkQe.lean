/- Package pack: PackEncodes's walk. Laid by wip/tools/mkpkqe.py. -/
import Derived.Test.YtkfcfoidaalnlaaPkLk
import Derived.Deep.DeepCutAuto
namespace Go.Proofs.Ytkfcfoidaalnlaa.Pak
open Go.ChangeShapes Go.WideShapes Go.ChangeAt Go.RowKit
open Ln
set_option linter.unusedVariables false
set_option linter.unusedSimpArgs false
set_option maxRecDepth 100000
theorem zeroLd : (Try.prog.info? 28).bind (fun i => i.zero.map Value.cells) = some (arr 1 (fun _ => .slice none 0 0)) := by kernel_rfl
theorem samePk_self (k : Pk) : samePk k k = true := (samePk_iff k k).2 rfl
theorem fb_cells {w : World} {g : Nat} {t : TypeId} {n : Nat} {f : Nat → Value} (h : FB w g t n f) : ∀ k, k < n → w.cell? ⟨g, 0 + k, none⟩ = some (f k) := fun k hk => by rw [Nat.zero_add]; exact h.cell k hk
/-- what is answered, in one form -/
def gotL (k : Pk) : List Int := if encE k = 0 then encW k else []
theorem gotL_le (k : Pk) : (gotL k).length ≤ 131072 := by
  unfold gotL
  by_cases h : encE k = 0
  · rw [if_pos h]
    unfold encE at h
    split at h
    · contradiction
    · split at h
      · contradiction
      · omega
  · rw [if_neg h]; simp
theorem gotL_bytes {k : Pk} (h : Small k) : Bytes (gotL k) := by
  unfold gotL
  by_cases h0 : encE k = 0
  · rw [if_pos h0]; exact enc_bytes h.bd h.bc
  · rw [if_neg h0]; exact Bytes.nil
theorem enc_uni {w w' : World} {k : Pk} {e : Ending} (h : Encoded w k e w') : Below w.heap.size w w' ∧ ∃ A n c, e = .returned (.tuple #[.slice A n c, .int .i64 (encE k)]) ∧ OwnB w' w.heap.size (.slice A n c) (gotL k) ∧ Sl w' A n c (gotL k) := by
  obtain ⟨hb, v, he, hv⟩ := h
  have hv2 : OwnB w' w.heap.size v (gotL k) := by
    unfold gotL
    by_cases h0 : encE k = 0
    · rw [if_pos h0] at hv ⊢; exact hv
    · rw [if_neg h0] at hv ⊢; rw [hv]; exact OwnB.nil _ _
  obtain ⟨A, n, c, rfl, hs⟩ := own_full hv2
  exact ⟨hb, A, n, c, he, hv2, hs⟩
theorem lent_touch {w w' : World} {g r x : Nat} {L D : List Int} {cs : Array Value} (h : Lent w g r L D) (ht : Touch x w w') (hx : Blk w x 25 cs) : Lent w' g r L D :=
  ⟨h.1, (ht.block r h.2.1.lt (blk_ne h.2.1 hx (by decide))).trans h.2.1, (ht.block g h.2.2.lt (blk_ne h.2.2 hx (by decide))).trans h.2.2⟩
theorem room_keep2 {w w' : World} {g r g2 r2 : Nat} {R L D : List Int} (h : Room w g (some r) R) (hk : Keep2 g2 (some r2) w w') (h1 : g ≠ g2) (h2 : r ≠ r2) (hl : Lent w g2 r2 L D) : Room w' g (some r) R := by
  rcases h with ⟨h3, -, -⟩ | ⟨x, h3, h4, h5, h6⟩
  · cases h3
  · injection h3 with h3
    subst h3
    exact .inr ⟨r, rfl, h4, keep_blk hk h5 (blk_ne h5 hl.2.2 (by decide)) h2, keep_blk hk h6 h1 (blk_ne h6 hl.2.1 (by decide))⟩
theorem room_touch {w w' : World} {g x : Nat} {rb : Option Nat} {R : List Int} {cs : Array Value} (h : Room w g rb R) (ht : Touch x w w') (hx : Blk w x 25 cs) : Room w' g rb R := by
  rcases h with ⟨h1, h2, h3⟩ | ⟨r, h1, h2, h3, h4⟩
  · exact .inl ⟨h1, h2, (ht.block g h3.lt (blk_ne h3 hx (by decide))).trans h3⟩
  · exact .inr ⟨r, h1, h2, (ht.block r h3.lt (blk_ne h3 hx (by decide))).trans h3, (ht.block g h4.lt (blk_ne h4 hx (by decide))).trans h4⟩
theorem room_lt {w : World} {g r : Nat} {R : List Int} (h : Room w g (some r) R) : r < w.heap.size := by
  rcases h with ⟨h3, -, -⟩ | ⟨x, h3, h4, h5, h6⟩
  · cases h3
  · injection h3 with h3; subst h3; exact Blk.lt h5
theorem room_eq {w w' : World} {g r : Nat} {R : List Int} (h : Room w g (some r) R) (hg : w'.heap[g]? = w.heap[g]?) (hr : w'.heap[r]? = w.heap[r]?) : Room w' g (some r) R := by
  rcases h with ⟨h3, -, -⟩ | ⟨x, h3, h4, h5, h6⟩
  · cases h3
  · injection h3 with h3; subst h3; exact .inr ⟨r, rfl, h4, hr.trans h5, hg.trans h6⟩
theorem BkS.mono {Z : Nat → Prop} {G T m T' m' : Nat} {w : World} (h : BkS Z G T m w) (hT : T ≤ T') (hm : m ≤ m') : BkS Z G T' m' w := by
  obtain ⟨cnt, tot, fv, wv, kv, fr, F, Ws, K, R, h1, h2, h3, h4, h5⟩ := h.use
  exact ⟨cnt, tot, fv, wv, kv, fr, F, Ws, K, R, h1, h2, by omega, by omega, by omega⟩
/-- what stands at a round's beginning -/
structure EnS (w : World) (gA gO g3 g4 G : Nat) (XA XO : Nat → Value) (rb1 : Option Nat) (R1 : List Int) (rb2 : Option Nat) (R2 : List Int) (Z : Nat → Prop) (T m : Nat) (W : World) : Prop where
  below : Below w.heap.size w W
  box : FB W gA 25 5 XA
  boxO : FB W gO 25 5 XO
  r1 : Room W g3 rb1 R1
  r2 : Room W g4 rb2 R2
  len : R1.length ≤ 1099511627776 ∧ R2.length ≤ 1099511627776
  ge1 : ∀ r, rb1 = some r → w.heap.size ≤ r
  ge2 : ∀ r, rb2 = some r → w.heap.size ≤ r
  ne : ∀ r, rb1 = some r → rb2 ≠ some r
  z0 : ∀ b, b < w.heap.size → Z b
  zA : Z gA ∧ Z gO ∧ Z g3 ∧ Z g4
  z1 : ∀ r, rb1 = some r → Z r
  z2 : ∀ r, rb2 = some r → Z r
  bk : BkS Z G T m W
/-- what the making of a container leaves alone: the two boxes, and the book -/
structure By (wr : World) (Z : Nat → Prop) (gA gO : Nat) (XA XO : Nat → Value) (W : World) : Prop where
  a : FB W gA 25 5 XA
  o : FB W gO 25 5 XO
  z : KZ Z wr W
section
variable {wr W W' : World} {Z : Nat → Prop} {gA gO : Nat} {XA XO : Nat → Value}
theorem By.up (h : By wr Z gA gO XA XO W) (hb : Below W.heap.size W W') : By wr Z gA gO XA XO W' := ⟨h.a.up hb, h.o.up hb, h.z.up hb⟩
theorem By.lend {g r : Nat} {rb : Option Nat} (h : By wr Z gA gO XA XO W) (hk : LendK W g r rb W') (hs : W.heap.size ≤ W'.heap.size) (hg : Z g) (hr : ∀ x, rb = some x → Z x) : By wr Z gA gO XA XO W' := by
  obtain ⟨cs, hc⟩ := hk.own
  refine ⟨hk.blk h.a (by decide) (blk_ne h.a hc (by decide)), hk.blk h.o (by decide) (blk_ne h.o hc (by decide)), h.z.keep2 hs hk.keep hg ?_⟩
  rcases hk.room with h1 | h1
  · exact .inl (hr r h1.symm)
  · right; have := h.z.size; omega
theorem By.back {g r : Nat} {L D : List Int} (h : By wr Z gA gO XA XO W) (hk : Keep2 g (some r) W W') (hl : Lent W g r L D) (hs : W.heap.size ≤ W'.heap.size) (hg : Z g) (hr : Z r ∨ wr.heap.size ≤ r) : By wr Z gA gO XA XO W' :=
  ⟨keep_blk hk h.a (blk_ne h.a hl.2.2 (by decide)) (blk_ne h.a hl.2.1 (by decide)), keep_blk hk h.o (blk_ne h.o hl.2.2 (by decide)) (blk_ne h.o hl.2.1 (by decide)), h.z.keep2 hs hk hg hr⟩
theorem By.touch {x : Nat} (h : By wr Z gA gO XA XO W) (ht : Touch x W W') (hs : W.heap.size ≤ W'.heap.size) (h1 : wr.heap.size ≤ x) (h2 : gA ≠ x) (h3 : gO ≠ x) : By wr Z gA gO XA XO W' :=
  ⟨h.a.touch ht h2, h.o.touch ht h3, h.z.touch ht hs (.inr h1)⟩
end
/-- a container that was lent: its bytes out of two rooms -/
structure GvS (w wr : World) (Z : Nat → Prop) (gA gO : Nat) (XA XO : Nat → Value) (k : Pk) (ga g3 g4 : Nat) (X : Nat → Value) (s6 : Value) (W : World) : Prop where
  ex : ∃ (g6 r1 r2 c1 c2 nd nc : Nat) (D1 D2 : List Int) (vt : Value), s6 = .pointer (some ⟨g6, 0, none⟩) ∧ FB W g6 25 5 (pkF k.lo k.hi (.slice (some ⟨r1, 0, none⟩) nd c1) vt (.slice (some ⟨r2, 0, none⟩) nc c2)) ∧
    Lent W g3 r1 k.data D1 ∧ Lent W g4 r2 k.code D2 ∧ Hid (k.data.length = nd ∧ k.code.length = nc) ∧ Hid (k.data.length + (k.data.length + 70) + D1.length = c1 ∧ k.code.length + (k.code.length + 70) + D2.length = c2) ∧ c1 ≤ 1099511627776 ∧ c2 ≤ 1099511627776 ∧
    OwnR 60 2 tabF W w.heap.size vt k.tabs ∧ w.heap.size ≤ r1 ∧ w.heap.size ≤ r2 ∧ r1 ≠ r2 ∧ (Z r1 ∨ wr.heap.size ≤ r1) ∧ (Z r2 ∨ wr.heap.size ≤ r2)
  box : FB W ga 25 5 X
  below : Below w.heap.size w W
  by_ : By wr Z gA gO XA XO W
/-- the container that the round is about -/
structure PickS (w wr : World) (Z : Nat → Prop) (gA gO g3 g4 ga : Nat) (XA XO : Nat → Value) (rb1 : Option Nat) (R1 : List Int) (rb2 : Option Nat) (R2 : List Int) (W : World) : Prop where
  ex : ∃ (k : Pk) (vd vt vc : Value) (X : Nat → Value), X = pkF k.lo k.hi vd vt vc ∧ PkAt w vd vt vc k ∧ Small k ∧ (k.data.length ≤ 1048576 ∧ k.code.length ≤ 1048576) ∧ FB W ga 25 5 X
  below : Below w.heap.size w W
  by_ : By wr Z gA gO XA XO W
  r1 : Room W g3 rb1 R1
  r2 : Room W g4 rb2 R2
set_option maxHeartbeats 16000000 in
theorem packEncodes_any (w : World) (kA kO : Pk) (vd vt vc ud ut uc : Value) (hp : PkAt w vd vt vc kA) (ho : PkAt w ud ut uc kO) (hs : Small kA) (ht : Small kO) (hu : kA.data.length ≤ 1048576 ∧ kA.code.length ≤ 1048576) (hv : kO.data.length ≤ 1048576 ∧ kO.code.length ≤ 1048576) :
    Calls Try.prog 3 #[.agg (arr 5 (pkF kA.lo kA.hi vd vt vc)), .agg (arr 5 (pkF kO.lo kO.hi ud ut uc))] w (RetB w (.bool true)) := by
  have HPA := Lib.hid (And.intro hp (And.intro hs hu))
  have HPO := Lib.hid (And.intro ho (And.intro ht hv))
  have HON := Lib.hid (show ∃ f : Nat → Bool, True from ⟨fun _ => true, trivial⟩)
  obtain ⟨XA, hXA⟩ : ∃ X, X = pkF kA.lo kA.hi vd vt vc := ⟨_, rfl⟩
  obtain ⟨XO, hXO⟩ : ∃ X, X = pkF kO.lo kO.hi ud ut uc := ⟨_, rfl⟩
  rw [← hXA, ← hXO]
  have HXA := Lib.hid hXA
  have HXO := Lib.hid hXO
  have HOA := Lib.hid (show ∀ q, q < 5 → (XA q).oneCell' = true by
    rw [hXA]
    obtain ⟨⟨_, _, _, rfl, _⟩, ⟨_, _, _, rfl, _⟩, _, _, _, rfl, _⟩ := hp
    exact pkF_one rfl rfl rfl)
  have HOO := Lib.hid (show ∀ q, q < 5 → (XO q).oneCell' = true by
    rw [hXO]
    obtain ⟨⟨_, _, _, rfl, _⟩, ⟨_, _, _, rfl, _⟩, _, _, _, rfl, _⟩ := ho
    exact pkF_one rfl rfl rfl)
  clear hXA hXO hp ho hs ht hu hv HON
  go_enter Try.func3, Try.ntmps3
  go_upto_region 1 with (first
    | (refine wpList_box_seg (w := w) rfl _ (.tmp 0) rfl 5 XA rfl ?_; intro w1 h1 hB1 hs1; clear hs1)
    | (refine wpList_box_seg rfl _ (.tmp 1) rfl 5 XO rfl ?_; intro w2 h2 hB2 hs2; clear hs2))
  obtain ⟨gA, hgA⟩ : ∃ g, g = w.heap.size := ⟨_, rfl⟩
  obtain ⟨gO, hgO⟩ : ∃ g, g = w1.heap.size := ⟨_, rfl⟩
  rw [← hgA] at h1 ⊢
  rw [← hgO] at h2 ⊢
  have HAO := Lib.hid (show gA ≠ gO by have := h1.lt; omega)
  have HB2 := Lib.hid (hB1.trans (hB2.mono hB1.size))
  have HA2 := Lib.hid (h1.up hB2)
  have HO2 := Lib.hid h2
  clear h1 hB1 h2 hB2 hgA hgO
  go_upto_region 3 with (go_at_call 5; refine (awake_any w2).mono ?_; rintro e w3 ⟨rfl, hB3⟩)
  have HA3 := Lib.hid (HA2.out.up hB3)
  have HO3 := Lib.hid (HO2.out.up hB3)
  have HB3 := Lib.hid (HB2.out.trans (hB3.mono HB2.out.size))
  clear hB3 HA2 HO2 HB2
  go_upto_region 4 with (first
    | (refine wpList_alloc_seg (w := w3) rfl 28 rfl 1 (fun _ => .slice none 0 0) zeroLd ?_; intro w4 h4 hB4 hs4; clear hs4)
    | (refine wpList_alloc_seg rfl 28 rfl 1 (fun _ => .slice none 0 0) zeroLd ?_; intro w5 h5 hB5 hs5; clear hs5))
  obtain ⟨g3, hg3⟩ : ∃ g, g = w3.heap.size := ⟨_, rfl⟩
  obtain ⟨g4, hg4⟩ : ∃ g, g = w4.heap.size := ⟨_, rfl⟩
  rw [← hg3] at h4 ⊢
  rw [← hg4] at h5 ⊢
  have HG := Lib.hid (show w.heap.size ≤ g3 ∧ w.heap.size ≤ g4 ∧ g3 ≠ g4 from ⟨by have := HB3.out.size; omega, by have h1 := HB3.out.size; have h2 := hB4.size; omega, by have := h4.lt; omega⟩)
  have hb5 : Below w3.heap.size w3 w5 := hB4.trans (hB5.mono hB4.size)
  have hb6 : Below w5.heap.size w5 (w5.alloc (.cells #[.int .i64 0, .int .i64 0, .slice none 0 0, .slice none 0 0, .slice none 0 0, .slice none 0 0, .bool false] 33)) := (Below.refl _ _).alloc (Nat.le_refl _) _
  have hG6 := Blk.new w5 33 #[.int .i64 0, .int .i64 0, .slice none 0 0, .slice none 0 0, .slice none 0 0, .slice none 0 0, .bool false]
  obtain ⟨G, hG⟩ : ∃ g, g = w5.heap.size := ⟨_, rfl⟩
  have HLT := Lib.hid (show gA < G ∧ gO < G ∧ g3 < G ∧ g4 < G ∧ w.heap.size ≤ G from ⟨by have h1 := HA3.out.lt; have h2 := hb5.size; omega, by have h1 := HO3.out.lt; have h2 := hb5.size; omega, by have h1 := h4.lt; have h2 := hB5.size; omega, by have h1 := h5.lt; omega, by have h1 := HB3.out.size; have h2 := hb5.size; omega⟩)
  have hsz : (w5.alloc (.cells #[.int .i64 0, .int .i64 0, .slice none 0 0, .slice none 0 0, .slice none 0 0, .slice none 0 0, .bool false] 33)).heap.size = G + 1 := by rw [hG]; simp
  have HGG := Lib.hid hG
  have HSZ := Lib.hid hsz
  clear hG hsz hg3 hg4
  go_upto_region 5 with fail
  have hG := HGG.out
  have hsz := HSZ.out
  clear HGG HSZ
  obtain ⟨w6, hw6⟩ : ∃ u, u = w5.alloc (.cells #[.int .i64 0, .int .i64 0, .slice none 0 0, .slice none 0 0, .slice none 0 0, .slice none 0 0, .bool false] 33) := ⟨_, rfl⟩
  rw [← hw6] at hb6 hG6 hsz ⊢
  rw [← hG] at hG6 ⊢
  have hb36 : Below w3.heap.size w3 w6 := hb5.trans (hb6.mono hb5.size)
  have hb46 : Below w4.heap.size w4 w6 := hB5.trans (hb6.mono hB5.size)
  have HS6 := Lib.hid (show EnS w gA gO g3 g4 G XA XO none [] none [] (fun b => b < w6.heap.size ∧ b ≠ G) 0 0 w6 from
    ⟨HB3.out.trans (hb36.mono HB3.out.size), HA3.out.up hb36, HO3.out.up hb36, .inl ⟨rfl, rfl, h4.up hb46⟩, .inl ⟨rfl, rfl, h5.up hb6⟩, ⟨by simp, by simp⟩, (fun r h => by cases h), (fun r h => by cases h), (fun r h => by cases h),
     fun b hb => ⟨by have := HLT.out.2.2.2.2; omega, by have := HLT.out.2.2.2.2; omega⟩, by have h := HLT.out; refine ⟨⟨?_, ?_⟩, ⟨?_, ?_⟩, ⟨?_, ?_⟩, ⟨?_, ?_⟩⟩ <;> omega, (fun r h => by cases h), (fun r h => by cases h), ⟨Bk.Use.new hG6⟩⟩)
  clear h4 hB4 h5 hB5 hb5 HA3 HB3 HO3 hb6 hG6 hsz hw6 hb36 hb46 hG
  go_wp2_with fail
  go_loopw [8, 11, 12, 13, 14] (fun a8 _ _ _ _ wr => ∃ (j : Nat) (rb1 : Option Nat) (R1 : List Int) (rb2 : Option Nat) (R2 : List Int) (Z : Nat → Prop), a8 = .int .i64 j ∧ j ≤ 3 ∧ Hid (EnS w gA gO g3 g4 G XA XO rb1 R1 rb2 R2 Z (131072 * j) (2 * j) wr)) (fun a8 _ _ _ _ _ => (3 - intOf a8).toNat)
  case atStart => exact ⟨0, _, _, _, _, _, rfl, by decide, HS6⟩
  case round =>
    obtain ⟨j, rb1, R1, rb2, R2, Z, rfl, hj, HR⟩ := hrel
    clear HS6
    by_cases hlt : j < 3
    case neg =>
      obtain rfl : j = 3 := by omega
      clear hlt hj
      have hd := Lib.hid (Bk.done_any Z wr G _ _ wr wr HR.out.bk.use (Below.refl _ _) (by omega))
      go_wp2_with (go_at_call 16; refine hd.out.mono ?_; rintro e w8 ⟨rfl, h1, h2⟩)
      go_ret
      exact ⟨rfl, HR.out.below.trans ⟨h1.os, h1.tape, h1.output, h1.size, fun b hb => h2 b (HR.out.z0 b hb)⟩⟩
    have hlt' : (j : Int) < 3 := by omega
    go_upto_region 9 with (first
      | (refine wpList_load_all rfl 25 _ rfl gA rfl 25 5 XA _ HR.out.box Try.underlying25 rfl sizePk ?_)
      | (refine wpList_alloc_seg rfl 25 rfl 5 zeroPkF zeroPk ?_; intro w7 h7 hB7 hs7; clear hs7)
      | (refine wpList_store_all rfl 25 _ _ rfl wr.heap.size 25 5 _ XA rfl rfl h7 sizePk HOA.out ?_; intro w8 h8 hT8 hs8))
    obtain ⟨ga, hga⟩ : ∃ g, g = wr.heap.size := ⟨_, rfl⟩
    have hb8 : Below wr.heap.size wr w8 := hB7.trans (hT8.below (Nat.le_refl _) hB7.size)
    rw [← hga] at h8 ⊢
    have HGA := Lib.hid (show w.heap.size ≤ ga ∧ wr.heap.size ≤ ga ∧ gA ≠ ga ∧ gO ≠ ga from ⟨by have := HR.out.below.size; omega, by omega, by have := HR.out.box.lt; omega, by have := HR.out.boxO.lt; omega⟩)
    have HBY := Lib.hid (show By wr Z gA gO XA XO w8 from ⟨HR.out.box.up hb8, HR.out.boxO.up hb8, (KZ.refl Z wr).up hb8⟩)
    have HB8 := Lib.hid (HR.out.below.trans (hb8.mono HR.out.below.size))
    have HF8 := Lib.hid h8
    have HR18 := Lib.hid (Room.up HR.out.r1 hb8)
    have HR28 := Lib.hid (Room.up HR.out.r2 hb8)
    clear h7 hB7 h8 hT8 hs8 hb8 hga
    go_upto_if 25 with fail
    go_cut [] (fun wx => ∃ W, W = wx ∧ PickS w wr Z gA gO g3 g4 ga XA XO rb1 R1 rb2 R2 W)
    case first =>
      by_cases hj1 : j = 1
      · have e1 : ((j : Int) == 1) = true := by rw [hj1]; rfl
        go_wp2_with (first
          | (refine wpList_load_all rfl 25 _ rfl gO rfl 25 5 XO _ HBY.out.o Try.underlying25 rfl sizePk ?_)
          | (refine wpList_store_all rfl 25 _ _ rfl ga 25 5 _ XO rfl rfl HF8.out sizePk HOO.out ?_; intro w9 h9 hT9 hs9))
        go_meet
        case rel => exact ⟨_, rfl, ⟨kO, ud, ut, uc, XO, HXO.out, HPO.out.1, HPO.out.2.1, HPO.out.2.2, h9⟩, HB8.out.trans (hT9.below HGA.out.1 HB8.out.size), HBY.out.touch hT9 (Nat.le_of_eq hs9.symm) HGA.out.2.1 HGA.out.2.2.1 HGA.out.2.2.2, room_touch HR18.out hT9 HF8.out, room_touch HR28.out hT9 HF8.out⟩
      · have e1 : ((j : Int) == 1) = false := by simp; omega
        go_wp2_with fail
        go_meet
        case rel => exact ⟨_, rfl, ⟨kA, vd, vt, vc, XA, HXA.out, HPA.out.1, HPA.out.2.1, HPA.out.2.2, HF8.out⟩, HB8.out, HBY.out, HR18.out, HR28.out⟩
    case rest =>
      clear HBY HB8 HF8 HR18 HR28
      obtain ⟨w9, hw9, ⟨k, vd, vt, vc, X, hX, hp, hs, hu, hf9⟩, hb9, hy9, hr19, hr29⟩ := hcut
      subst hw9
      obtain ⟨⟨Ad, nd, cd, rfl, hD⟩, ⟨At, nt, ct, rfl, hT⟩, Ac, nc, cc, rfl, hC⟩ := hp
      have HP := Lib.hid (show PkAt w (.slice Ad nd cd) (.slice At nt ct) (.slice Ac nc cc) k from ⟨⟨_, _, _, rfl, hD⟩, ⟨_, _, _, rfl, hT⟩, _, _, _, rfl, hC⟩)
      have HD := Lib.hid hD
      have HTT := Lib.hid hT
      have HC := Lib.hid hC
      have HN := Lib.hid (show nd ≤ 1048576 ∧ nc ≤ 1048576 ∧ nt ≤ 8796093022208 from ⟨by have := hD.len.out; omega, by have := hC.len.out; omega, by have := hT.len.out; have := hs.tabs; omega⟩)
      have HX := Lib.hid hX
      have HS := Lib.hid hs
      have HF9 := Lib.hid hf9
      have HB9 := Lib.hid hb9
      have HY9 := Lib.hid hy9
      have HR19 := Lib.hid hr19
      have HR29 := Lib.hid hr29
      clear hX hD hT hC hs hu hf9 hb9 hy9 hr19 hr29
      go_upto_region 11 with fail
      have HX0 := Lib.hid (show X 0 = .int .i64 k.lo ∧ X 1 = .int .i64 k.hi ∧ X 2 = .slice Ad nd cd ∧ X 3 = .slice At nt ct ∧ X 4 = .slice Ac nc cc by rw [HX.out]; exact ⟨rfl, rfl, rfl, rfl, rfl⟩)
      go_cut [10] (fun s6 wx => ∃ W, W = wx ∧ GvS w wr Z gA gO XA XO k ga g3 g4 X s6 W)
      case first =>
        refine wp_region_held_drew (S := fun W => FB W ga 25 5 X) (by kernel_rfl) (HF9.out.drewN 1) (fun hHeld => ?_)
        refine wpAnyH_take (i := 0) (oi := { dst := some 27, op := Op.fieldAddr 25 (Operand.tmp 9) 0, type := 0, pos := "law.go:34", after := #[], guard := none }) (v := .pointer (some ⟨ga, 0, none⟩)) rfl (by kernel_rfl) (by kernel_rfl) (by kernel_rfl) (fun _ _ _ h => h) (Or.inl ⟨by rfl, ?_⟩) (by assumption) ?_
        · intro w hSw
          go_simp
        try simp only [Act.put, List.setIfInBounds_toArray, List.set_cons_zero, List.set_cons_succ]
        refine wpAnyH_take (i := 1) (oi := { dst := some 28, op := Op.load 3 (Operand.tmp 27), type := 3, pos := "law.go:34", after := #[{ on := 0, ground := Ground.data }], guard := none }) (v := .int .i64 k.lo) rfl (by kernel_rfl) (by kernel_rfl) (by kernel_rfl) (fun _ _ _ h => h) (Or.inl ⟨by rfl, ?_⟩) (by assumption) ?_
        · intro w hSw
          have q0 : w.cell? ⟨ga, 0, none⟩ = some (.int .i64 k.lo) := by rw [hSw.cell 0 (by decide), HX0.out.1]
          go_simp
        try simp only [Act.put, List.setIfInBounds_toArray, List.set_cons_zero, List.set_cons_succ]
        refine wpAnyH_take (i := 2) (oi := { dst := some 29, op := Op.fieldAddr 25 (Operand.tmp 9) 1, type := 0, pos := "law.go:34", after := #[], guard := none }) (v := .pointer (some ⟨ga, 1, none⟩)) rfl (by kernel_rfl) (by kernel_rfl) (by kernel_rfl) (fun _ _ _ h => h) (Or.inl ⟨by rfl, ?_⟩) (by assumption) ?_
        · intro w hSw
          go_simp
        try simp only [Act.put, List.setIfInBounds_toArray, List.set_cons_zero, List.set_cons_succ]
        refine wpAnyH_take (i := 3) (oi := { dst := some 30, op := Op.load 3 (Operand.tmp 29), type := 3, pos := "law.go:34", after := #[{ on := 2, ground := Ground.data }], guard := none }) (v := .int .i64 k.hi) rfl (by kernel_rfl) (by kernel_rfl) (by kernel_rfl) (fun _ _ _ h => h) (Or.inl ⟨by rfl, ?_⟩) (by assumption) ?_
        · intro w hSw
          have q0 : w.cell? ⟨ga, 1, none⟩ = some (.int .i64 k.hi) := by rw [hSw.cell 1 (by decide), HX0.out.2.1]
          go_simp
        try simp only [Act.put, List.setIfInBounds_toArray, List.set_cons_zero, List.set_cons_succ]
        refine wpAnyH_take (i := 4) (oi := { dst := some 31, op := Op.fieldAddr 25 (Operand.tmp 9) 2, type := 0, pos := "law.go:34", after := #[], guard := none }) (v := .pointer (some ⟨ga, 2, none⟩)) rfl (by kernel_rfl) (by kernel_rfl) (by kernel_rfl) (fun _ _ _ h => h) (Or.inl ⟨by rfl, ?_⟩) (by assumption) ?_
        · intro w hSw
          go_simp
        try simp only [Act.put, List.setIfInBounds_toArray, List.set_cons_zero, List.set_cons_succ]
        refine wpAnyH_take (i := 5) (oi := { dst := some 32, op := Op.load 22 (Operand.tmp 31), type := 22, pos := "law.go:34", after := #[{ on := 4, ground := Ground.data }], guard := none }) (v := .slice Ad nd cd) rfl (by kernel_rfl) (by kernel_rfl) (by kernel_rfl) (fun _ _ _ h => h) (Or.inl ⟨by rfl, ?_⟩) (by assumption) ?_
        · intro w hSw
          have q0 : w.cell? ⟨ga, 2, none⟩ = some (.slice Ad nd cd) := by rw [hSw.cell 2 (by decide), HX0.out.2.2.1]
          go_simp
        try simp only [Act.put, List.setIfInBounds_toArray, List.set_cons_zero, List.set_cons_succ]
        refine wpAnyH_take (i := 7) (oi := { dst := some 34, op := Op.fieldAddr 25 (Operand.tmp 9) 3, type := 0, pos := "law.go:34", after := #[], guard := none }) (v := .pointer (some ⟨ga, 3, none⟩)) rfl (by kernel_rfl) (by kernel_rfl) (by kernel_rfl) (fun _ _ _ h => h) (Or.inl ⟨by rfl, ?_⟩) (by assumption) ?_
        · intro w hSw
          go_simp
        try simp only [Act.put, List.setIfInBounds_toArray, List.set_cons_zero, List.set_cons_succ]
        refine wpAnyH_take (i := 8) (oi := { dst := some 35, op := Op.load 23 (Operand.tmp 34), type := 23, pos := "law.go:34", after := #[{ on := 7, ground := Ground.data }], guard := none }) (v := .slice At nt ct) rfl (by kernel_rfl) (by kernel_rfl) (by kernel_rfl) (fun _ _ _ h => h) (Or.inl ⟨by rfl, ?_⟩) (by assumption) ?_
        · intro w hSw
          have q0 : w.cell? ⟨ga, 3, none⟩ = some (.slice At nt ct) := by rw [hSw.cell 3 (by decide), HX0.out.2.2.2.1]
          go_simp
        try simp only [Act.put, List.setIfInBounds_toArray, List.set_cons_zero, List.set_cons_succ]
        refine wpAnyH_take (i := 10) (oi := { dst := some 37, op := Op.fieldAddr 25 (Operand.tmp 9) 4, type := 0, pos := "law.go:34", after := #[], guard := none }) (v := .pointer (some ⟨ga, 4, none⟩)) rfl (by kernel_rfl) (by kernel_rfl) (by kernel_rfl) (fun _ _ _ h => h) (Or.inl ⟨by rfl, ?_⟩) (by assumption) ?_
        · intro w hSw
          go_simp
        try simp only [Act.put, List.setIfInBounds_toArray, List.set_cons_zero, List.set_cons_succ]
        refine wpAnyH_take (i := 11) (oi := { dst := some 38, op := Op.load 22 (Operand.tmp 37), type := 22, pos := "law.go:34", after := #[{ on := 10, ground := Ground.data }], guard := none }) (v := .slice Ac nc cc) rfl (by kernel_rfl) (by kernel_rfl) (by kernel_rfl) (fun _ _ _ h => h) (Or.inl ⟨by rfl, ?_⟩) (by assumption) ?_
        · intro w hSw
          have q0 : w.cell? ⟨ga, 4, none⟩ = some (.slice Ac nc cc) := by rw [hSw.cell 4 (by decide), HX0.out.2.2.2.2]
          go_simp
        try simp only [Act.put, List.setIfInBounds_toArray, List.set_cons_zero, List.set_cons_succ]
        obtain ⟨wd, hwd⟩ : ∃ u, u = w9.drew := ⟨_, rfl⟩
        rw [← hwd] at hHeld ⊢
        have hbd : Below w9.heap.size w9 wd := by rw [hwd]; exact below_drewN (Below.refl _ _) 1
        have HBd := Lib.hid (HB9.out.trans (hbd.mono HB9.out.size))
        have HSd := Lib.hid hHeld
        have HYd := Lib.hid (HY9.out.up hbd)
        have HL1d := Lib.hid (show Room wd g3 rb1 R1 from Room.up HR19.out hbd)
        have HL2d := Lib.hid (show Room wd g4 rb2 R2 from Room.up HR29.out hbd)
        clear hHeld hwd hbd
        refine wpAnyH_ready (rs := [6, 14]) (by kernel_rfl) (by simp) ?_
        refine AllReadyH.cons (o := { dst := some 33, op := Op.call { callee := Callee.value (Operand.func 6), args := #[Operand.tmp 5, Operand.tmp 32], argTypes := #[28, 22] }, type := 22, pos := "law.go:34", after := #[{ on := 5, ground := Ground.data }], guard := none }) rfl ?_ ?_
        rotate_left
        refine AllReadyH.cons (o := { dst := some 10, op := Op.alloc 25, type := 0, pos := "law.go:34", after := #[], guard := none }) rfl ?_ ?_
        rotate_left
        · exact AllReadyH.nil
        · intro K hK
          go_simp
          go_at_call 6
          refine (Ln.lend_any wd g3 rb1 R1 HL1d.out Ad nd cd k.data HD.out.len.out HN.out.1 HR.out.len.1 (HD.out.up HBd.out).byt (fun _ b off e => ?_) w.heap.size HG.out.1 HR.out.ge1).mono ?_
          · have h1 := HD.out.lt b off e
            have h2 := HG.out
            omega
          rintro e wda ⟨r1, D1, rfl, hL, hor, hmm, hk, hB⟩
          have HKda := Lib.hid (show LendK wd g3 r1 rb1 wda from ⟨hk, hor, room_old HL1d.out, Room.blk HL1d.out⟩)
          have HM1 := Lib.hid (show w.heap.size ≤ r1 ∧ k.data.length + (k.data.length + 70) + D1.length ≤ 1099511627776 ∧ (Z r1 ∨ wr.heap.size ≤ r1) from ⟨by rcases hor with h1 | h1; exact HR.out.ge1 r1 h1.symm; rw [h1]; exact HBd.out.size, hmm, by rcases hor with h1 | h1; exact .inl (HR.out.z1 r1 h1.symm); right; have := HYd.out.z.size; omega⟩)
          have HYda := Lib.hid (HYd.out.lend HKda.out hB.size HR.out.zA.2.2.1 HR.out.z1)
          have HSda := Lib.hid (show FB wda ga 25 5 X from HKda.out.blk HSd.out (by decide) (by obtain ⟨cs, h1⟩ := Room.blk HL1d.out; exact blk_ne HSd.out h1 (by decide)))
          have HBda := Lib.hid (HBd.out.trans hB)
          have HL2da := Lib.hid (HKda.out.otherRoom HL2d.out (fun e => HG.out.2.2 e.symm) (fun x hx e => HR.out.ne x e hx))
          have HL1da := Lib.hid hL
          have HNE1 := Lib.hid (show ∀ x, rb2 = some x → r1 ≠ x from fun x hx e => by
            subst e
            rcases hor with h1 | h1
            · exact HR.out.ne r1 h1.symm hx
            · obtain ⟨cs, h2⟩ := room_old HL2d.out r1 hx
              have := h2.lt
              omega)
          clear hL hor hmm hk hB
          obtain ⟨c1, hc1⟩ : ∃ c, c = k.data.length + (k.data.length + 70) + D1.length := ⟨_, rfl⟩
          rw [← hc1, HD.out.len.out]
          have HC1 := Lib.hid hc1
          clear hc1
          go_simp
          refine hK.out _ _ HSda.out (fun hHeld => ?_)
          clear hK K hHeld
          try simp only [Act.put, List.setIfInBounds_toArray, List.set_cons_zero, List.set_cons_succ]
          refine wpAnyH_ready (rs := [9, 14]) (by kernel_rfl) (by simp) ?_
          refine AllReadyH.cons (o := { dst := some 36, op := Op.call { callee := Callee.value (Operand.func 7), args := #[Operand.tmp 35], argTypes := #[23] }, type := 23, pos := "law.go:34", after := #[{ on := 8, ground := Ground.data }, { on := 6, ground := Ground.chain }], guard := none }) rfl ?_ ?_
          rotate_left
          refine AllReadyH.cons (o := { dst := some 10, op := Op.alloc 25, type := 0, pos := "law.go:34", after := #[], guard := none }) rfl ?_ ?_
          rotate_left
          · exact AllReadyH.nil
          · intro K hK
            go_simp
            go_at_call 7
            refine (copyTables_own wda At nt ct k.tabs (HTT.out.up HBda.out) HN.out.2.2).mono ?_
            rintro e wdab ⟨v9, rfl, hO, hB⟩
            have HO9dab := Lib.hid (ownR_base (base' := w.heap.size) hO HBda.out.size)
            clear hO
            obtain ⟨A9, n9, c9, rfl, -⟩ := OwnR.form HO9dab.out
            have HSdab := Lib.hid (HSda.out.up hB)
            have HYdab := Lib.hid (HYda.out.up hB)
            have HBdab := Lib.hid (HBda.out.trans (hB.mono HBda.out.size))
            have HL1dab := Lib.hid (Lent.up HL1da.out hB)
            have HL2dab := Lib.hid (Room.up HL2da.out hB)
            clear hB
            go_simp
            refine hK.out _ _ HSdab.out (fun hHeld => ?_)
            clear hK K hHeld
            try simp only [Act.put, List.setIfInBounds_toArray, List.set_cons_zero, List.set_cons_succ]
            refine wpAnyH_ready (rs := [12, 14]) (by kernel_rfl) (by simp) ?_
            refine AllReadyH.cons (o := { dst := some 39, op := Op.call { callee := Callee.value (Operand.func 6), args := #[Operand.tmp 6, Operand.tmp 38], argTypes := #[28, 22] }, type := 22, pos := "law.go:34", after := #[{ on := 11, ground := Ground.data }, { on := 9, ground := Ground.chain }], guard := none }) rfl ?_ ?_
            rotate_left
            refine AllReadyH.cons (o := { dst := some 10, op := Op.alloc 25, type := 0, pos := "law.go:34", after := #[], guard := none }) rfl ?_ ?_
            rotate_left
            · exact AllReadyH.nil
            · intro K hK
              go_simp
              go_at_call 6
              refine (Ln.lend_any wdab g4 rb2 R2 HL2dab.out Ac nc cc k.code HC.out.len.out HN.out.2.1 HR.out.len.2 (HC.out.up HBdab.out).byt (fun _ b off e => ?_) w.heap.size HG.out.2.1 HR.out.ge2).mono ?_
              · have h1 := HC.out.lt b off e
                have h2 := HG.out
                omega
              rintro e wdabc ⟨r2, D2, rfl, hL, hor, hmm, hk, hB⟩
              have HKdabc := Lib.hid (show LendK wdab g4 r2 rb2 wdabc from ⟨hk, hor, room_old HL2dab.out, Room.blk HL2dab.out⟩)
              have HM2 := Lib.hid (show w.heap.size ≤ r2 ∧ k.code.length + (k.code.length + 70) + D2.length ≤ 1099511627776 ∧ (Z r2 ∨ wr.heap.size ≤ r2) from ⟨by rcases hor with h1 | h1; exact HR.out.ge2 r2 h1.symm; rw [h1]; exact HBdab.out.size, hmm, by rcases hor with h1 | h1; exact .inl (HR.out.z2 r2 h1.symm); right; have := HYdab.out.z.size; omega⟩)
              have HYdabc := Lib.hid (HYdab.out.lend HKdabc.out hB.size HR.out.zA.2.2.2 HR.out.z2)
              have HSdabc := Lib.hid (show FB wdabc ga 25 5 X from HKdabc.out.blk HSdab.out (by decide) (by obtain ⟨cs, h1⟩ := Room.blk HL2dab.out; exact blk_ne HSdab.out h1 (by decide)))
              have HBdabc := Lib.hid (HBdab.out.trans hB)
              have HNE2 := Lib.hid (show r1 ≠ r2 from fun e => by
                rcases hor with h1 | h1
                · exact HNE1.out r2 h1.symm e
                · have := HL1dab.out.2.1.lt
                  omega)
              have HL1dabc := Lib.hid (HKdabc.out.otherLent HL1dab.out HG.out.2.2 (fun e => HNE1.out r1 e rfl))
              have HL2dabc := Lib.hid hL
              have HO9dabc := Lib.hid (show OwnR 60 2 tabF wdabc w.heap.size (.slice A9 n9 c9) k.tabs from HKdabc.out.rows HO9dab.out (by decide) (by decide))
              clear hL hor hmm hk hB
              obtain ⟨c2, hc2⟩ : ∃ c, c = k.code.length + (k.code.length + 70) + D2.length := ⟨_, rfl⟩
              rw [← hc2, HC.out.len.out]
              have HC2 := Lib.hid hc2
              clear hc2
              go_simp
              refine hK.out _ _ HSdabc.out (fun hHeld => ?_)
              clear hK K hHeld
              try simp only [Act.put, List.setIfInBounds_toArray, List.set_cons_zero, List.set_cons_succ]
              have hHeld := HSdabc.out
              refine wpAnyH_take (i := 13) (oi := { dst := some 40, op := Op.build 25 #[(0, Operand.tmp 28), (1, Operand.tmp 30), (2, Operand.tmp 33), (3, Operand.tmp 36), (4, Operand.tmp 39)], type := 25, pos := "law.go:34", after := #[{ on := 1, ground := Ground.data }, { on := 3, ground := Ground.data }, { on := 6, ground := Ground.data }, { on := 9, ground := Ground.data }, { on := 12, ground := Ground.data }], guard := none }) (v := .agg #[.int .i64 k.lo, .int .i64 k.hi, .slice (some ⟨r1, 0, none⟩) nd c1, .slice A9 n9 c9, .slice (some ⟨r2, 0, none⟩) nc c2]) rfl (by kernel_rfl) (by kernel_rfl) (by kernel_rfl) (fun _ _ _ h => h) (Or.inl ⟨by rfl, ?_⟩) (by assumption) ?_
              · intro w hSw
                go_simp
              try simp only [Act.put, List.setIfInBounds_toArray, List.set_cons_zero, List.set_cons_succ]
              clear hHeld
              refine wpAnyH_ready (rs := [14]) (by kernel_rfl) (by simp) ?_
              refine AllReadyH.cons (o := { dst := some 10, op := Op.alloc 25, type := 0, pos := "law.go:34", after := #[], guard := none }) rfl ?_ ?_
              rotate_left
              · exact AllReadyH.nil
              intro K hK
              refine step_alloc_seg (by rfl) 25 rfl 5 zeroPkF zeroPk ?_
              intro wdabce hC hB hs
              obtain ⟨g6, hg6⟩ : ∃ g, g = wdabc.heap.size := ⟨_, rfl⟩
              have HN6 := Lib.hid (show w.heap.size ≤ g6 ∧ ga ≠ g6 ∧ wr.heap.size ≤ g6 ∧ gA ≠ g6 ∧ gO ≠ g6 from ⟨by have := HBdabc.out.size; omega, by have := HSdabc.out.lt; omega, by have := HYdabc.out.z.size; omega, by have := HYdabc.out.a.lt; omega, by have := HYdabc.out.o.lt; omega⟩)
              rw [← hg6] at hC ⊢
              have HG6dabce := Lib.hid hC
              clear hs hg6 hC
              have HSdabce := Lib.hid (HSdabc.out.up hB)
              have HYdabce := Lib.hid (HYdabc.out.up hB)
              have HBdabce := Lib.hid (HBdabc.out.trans (hB.mono HBdabc.out.size))
              have HL1dabce := Lib.hid (Lent.up HL1dabc.out hB)
              have HL2dabce := Lib.hid (Lent.up HL2dabc.out hB)
              have HO9dabce := Lib.hid (HO9dabc.out.up hB)
              clear hB
              refine hK.out _ _ HSdabce.out (fun hHeld => ?_)
              clear hK K hHeld
              try simp only [Act.put, List.setIfInBounds_toArray, List.set_cons_zero, List.set_cons_succ]
              refine wpAnyH_ready (rs := [15]) (by kernel_rfl) (by simp) ?_
              refine AllReadyH.cons (o := { dst := none, op := Op.store 25 (Operand.tmp 10) (Operand.tmp 40), type := 0, pos := "law.go:34", after := #[{ on := 14, ground := Ground.data }, { on := 13, ground := Ground.data }, { on := 12, ground := Ground.chain }, { on := 0, ground := Ground.phase }, { on := 1, ground := Ground.phase }, { on := 2, ground := Ground.phase }, { on := 3, ground := Ground.phase }, { on := 4, ground := Ground.phase }, { on := 5, ground := Ground.phase }, { on := 6, ground := Ground.phase }, { on := 7, ground := Ground.phase }, { on := 8, ground := Ground.phase }, { on := 9, ground := Ground.phase }, { on := 10, ground := Ground.phase }, { on := 11, ground := Ground.phase }, { on := 12, ground := Ground.phase }, { on := 13, ground := Ground.phase }, { on := 14, ground := Ground.phase }], guard := none }) rfl ?_ ?_
              rotate_left
              · exact AllReadyH.nil
              intro K hK
              refine step_store_seg (by rfl) 25 _ _ rfl g6 0 25 5 5 zeroPkF (pkF k.lo k.hi (.slice (some ⟨r1, 0, none⟩) nd c1) (.slice A9 n9 c9) (.slice (some ⟨r2, 0, none⟩) nc c2)) rfl rfl HG6dabce.out (by omega) sizePk (pkF_one rfl rfl rfl) ?_
              intro wz hz hTz hsz
              have Hz := Lib.hid (show FB wz g6 25 5 (pkF k.lo k.hi (.slice (some ⟨r1, 0, none⟩) nd c1) (.slice A9 n9 c9) (.slice (some ⟨r2, 0, none⟩) nc c2)) from hz.congr fun q hq => by unfold updR; rw [if_pos (by omega), Nat.sub_zero])
              have HSz := Lib.hid (show FB wz ga 25 5 X from HSdabce.out.touch hTz HN6.out.2.1)
              have HYz := Lib.hid (HYdabce.out.touch hTz hTz.size HN6.out.2.2.1 HN6.out.2.2.2.1 HN6.out.2.2.2.2)
              have HL1z := Lib.hid (show Lent wz g3 r1 k.data D1 from lent_touch HL1dabce.out hTz HG6dabce.out)
              have HL2z := Lib.hid (show Lent wz g4 r2 k.code D2 from lent_touch HL2dabce.out hTz HG6dabce.out)
              have HO9z := Lib.hid (ownT_touch HO9dabce.out hTz HG6dabce.out (by decide))
              have HBz := Lib.hid (show Below w.heap.size w wz from HBdabce.out.trans (hTz.below HN6.out.1 HBdabce.out.size))
              clear hz hTz hsz
              refine hK.out _ _ HSz.out (fun hHeld => ?_)
              clear hK K
              try simp only [Act.put, List.setIfInBounds_toArray, List.set_cons_zero, List.set_cons_succ]
              clear hHeld
              refine wpAnyH_done (by kernel_rfl) ?_ _
              go_wp2_with fail
              go_meet
              case rel => exact ⟨_, rfl, ⟨g6, r1, r2, c1, c2, nd, nc, D1, D2, .slice A9 n9 c9, rfl, Hz.out, HL1z.out, HL2z.out, Lib.hid ⟨HD.out.len.out, HC.out.len.out⟩, Lib.hid ⟨HC1.out.symm, HC2.out.symm⟩, by rw [HC1.out]; exact HM1.out.2.1, by rw [HC2.out]; exact HM2.out.2.1, HO9z.out, HM1.out.1, HM2.out.1, HNE2.out, HM1.out.2.2, HM2.out.2.2⟩, HSz.out, HBz.out, HYz.out⟩
            · intro K hK
              refine step_alloc_seg (by rfl) 25 rfl 5 zeroPkF zeroPk ?_
              intro wdabe hC hB hs
              obtain ⟨g6, hg6⟩ : ∃ g, g = wdab.heap.size := ⟨_, rfl⟩
              have HN6 := Lib.hid (show w.heap.size ≤ g6 ∧ ga ≠ g6 ∧ wr.heap.size ≤ g6 ∧ gA ≠ g6 ∧ gO ≠ g6 from ⟨by have := HBdab.out.size; omega, by have := HSdab.out.lt; omega, by have := HYdab.out.z.size; omega, by have := HYdab.out.a.lt; omega, by have := HYdab.out.o.lt; omega⟩)
              rw [← hg6] at hC ⊢
              have HG6dabe := Lib.hid hC
              clear hs hg6 hC
              have HSdabe := Lib.hid (HSdab.out.up hB)
              have HYdabe := Lib.hid (HYdab.out.up hB)
              have HBdabe := Lib.hid (HBdab.out.trans (hB.mono HBdab.out.size))
              have HL1dabe := Lib.hid (Lent.up HL1dab.out hB)
              have HL2dabe := Lib.hid (Room.up HL2dab.out hB)
              have HO9dabe := Lib.hid (HO9dab.out.up hB)
              clear hB
              refine hK.out _ _ HSdabe.out (fun hHeld => ?_)
              clear hK K hHeld
              try simp only [Act.put, List.setIfInBounds_toArray, List.set_cons_zero, List.set_cons_succ]
              refine wpAnyH_ready (rs := [12]) (by kernel_rfl) (by simp) ?_
              refine AllReadyH.cons (o := { dst := some 39, op := Op.call { callee := Callee.value (Operand.func 6), args := #[Operand.tmp 6, Operand.tmp 38], argTypes := #[28, 22] }, type := 22, pos := "law.go:34", after := #[{ on := 11, ground := Ground.data }, { on := 9, ground := Ground.chain }], guard := none }) rfl ?_ ?_
              rotate_left
              · exact AllReadyH.nil
              intro K hK
              go_simp
              go_at_call 6
              refine (Ln.lend_any wdabe g4 rb2 R2 HL2dabe.out Ac nc cc k.code HC.out.len.out HN.out.2.1 HR.out.len.2 (HC.out.up HBdabe.out).byt (fun _ b off e => ?_) w.heap.size HG.out.2.1 HR.out.ge2).mono ?_
              · have h1 := HC.out.lt b off e
                have h2 := HG.out
                omega
              rintro e wdabec ⟨r2, D2, rfl, hL, hor, hmm, hk, hB⟩
              have HKdabec := Lib.hid (show LendK wdabe g4 r2 rb2 wdabec from ⟨hk, hor, room_old HL2dabe.out, Room.blk HL2dabe.out⟩)
              have HM2 := Lib.hid (show w.heap.size ≤ r2 ∧ k.code.length + (k.code.length + 70) + D2.length ≤ 1099511627776 ∧ (Z r2 ∨ wr.heap.size ≤ r2) from ⟨by rcases hor with h1 | h1; exact HR.out.ge2 r2 h1.symm; rw [h1]; exact HBdabe.out.size, hmm, by rcases hor with h1 | h1; exact .inl (HR.out.z2 r2 h1.symm); right; have := HYdabe.out.z.size; omega⟩)
              have HYdabec := Lib.hid (HYdabe.out.lend HKdabec.out hB.size HR.out.zA.2.2.2 HR.out.z2)
              have HSdabec := Lib.hid (show FB wdabec ga 25 5 X from HKdabec.out.blk HSdabe.out (by decide) (by obtain ⟨cs, h1⟩ := Room.blk HL2dabe.out; exact blk_ne HSdabe.out h1 (by decide)))
              have HBdabec := Lib.hid (HBdabe.out.trans hB)
              have HNE2 := Lib.hid (show r1 ≠ r2 from fun e => by
                rcases hor with h1 | h1
                · exact HNE1.out r2 h1.symm e
                · have := HL1dabe.out.2.1.lt
                  omega)
              have HL1dabec := Lib.hid (HKdabec.out.otherLent HL1dabe.out HG.out.2.2 (fun e => HNE1.out r1 e rfl))
              have HL2dabec := Lib.hid hL
              have HO9dabec := Lib.hid (show OwnR 60 2 tabF wdabec w.heap.size (.slice A9 n9 c9) k.tabs from HKdabec.out.rows HO9dabe.out (by decide) (by decide))
              have HG6dabec := Lib.hid (show FB wdabec g6 25 5 zeroPkF from HKdabec.out.blk HG6dabe.out (by decide) (by obtain ⟨cs, h1⟩ := HKdabec.out.own; exact blk_ne HG6dabe.out h1 (by decide)))
              clear hL hor hmm hk hB
              obtain ⟨c2, hc2⟩ : ∃ c, c = k.code.length + (k.code.length + 70) + D2.length := ⟨_, rfl⟩
              rw [← hc2, HC.out.len.out]
              have HC2 := Lib.hid hc2
              clear hc2
              go_simp
              refine hK.out _ _ HSdabec.out (fun hHeld => ?_)
              clear hK K hHeld
              try simp only [Act.put, List.setIfInBounds_toArray, List.set_cons_zero, List.set_cons_succ]
              have hHeld := HSdabec.out
              refine wpAnyH_take (i := 13) (oi := { dst := some 40, op := Op.build 25 #[(0, Operand.tmp 28), (1, Operand.tmp 30), (2, Operand.tmp 33), (3, Operand.tmp 36), (4, Operand.tmp 39)], type := 25, pos := "law.go:34", after := #[{ on := 1, ground := Ground.data }, { on := 3, ground := Ground.data }, { on := 6, ground := Ground.data }, { on := 9, ground := Ground.data }, { on := 12, ground := Ground.data }], guard := none }) (v := .agg #[.int .i64 k.lo, .int .i64 k.hi, .slice (some ⟨r1, 0, none⟩) nd c1, .slice A9 n9 c9, .slice (some ⟨r2, 0, none⟩) nc c2]) rfl (by kernel_rfl) (by kernel_rfl) (by kernel_rfl) (fun _ _ _ h => h) (Or.inl ⟨by rfl, ?_⟩) (by assumption) ?_
              · intro w hSw
                go_simp
              try simp only [Act.put, List.setIfInBounds_toArray, List.set_cons_zero, List.set_cons_succ]
              clear hHeld
              refine wpAnyH_ready (rs := [15]) (by kernel_rfl) (by simp) ?_
              refine AllReadyH.cons (o := { dst := none, op := Op.store 25 (Operand.tmp 10) (Operand.tmp 40), type := 0, pos := "law.go:34", after := #[{ on := 14, ground := Ground.data }, { on := 13, ground := Ground.data }, { on := 12, ground := Ground.chain }, { on := 0, ground := Ground.phase }, { on := 1, ground := Ground.phase }, { on := 2, ground := Ground.phase }, { on := 3, ground := Ground.phase }, { on := 4, ground := Ground.phase }, { on := 5, ground := Ground.phase }, { on := 6, ground := Ground.phase }, { on := 7, ground := Ground.phase }, { on := 8, ground := Ground.phase }, { on := 9, ground := Ground.phase }, { on := 10, ground := Ground.phase }, { on := 11, ground := Ground.phase }, { on := 12, ground := Ground.phase }, { on := 13, ground := Ground.phase }, { on := 14, ground := Ground.phase }], guard := none }) rfl ?_ ?_
              rotate_left
              · exact AllReadyH.nil
              intro K hK
              refine step_store_seg (by rfl) 25 _ _ rfl g6 0 25 5 5 zeroPkF (pkF k.lo k.hi (.slice (some ⟨r1, 0, none⟩) nd c1) (.slice A9 n9 c9) (.slice (some ⟨r2, 0, none⟩) nc c2)) rfl rfl HG6dabec.out (by omega) sizePk (pkF_one rfl rfl rfl) ?_
              intro wz hz hTz hsz
              have Hz := Lib.hid (show FB wz g6 25 5 (pkF k.lo k.hi (.slice (some ⟨r1, 0, none⟩) nd c1) (.slice A9 n9 c9) (.slice (some ⟨r2, 0, none⟩) nc c2)) from hz.congr fun q hq => by unfold updR; rw [if_pos (by omega), Nat.sub_zero])
              have HSz := Lib.hid (show FB wz ga 25 5 X from HSdabec.out.touch hTz HN6.out.2.1)
              have HYz := Lib.hid (HYdabec.out.touch hTz hTz.size HN6.out.2.2.1 HN6.out.2.2.2.1 HN6.out.2.2.2.2)
              have HL1z := Lib.hid (show Lent wz g3 r1 k.data D1 from lent_touch HL1dabec.out hTz HG6dabec.out)
              have HL2z := Lib.hid (show Lent wz g4 r2 k.code D2 from lent_touch HL2dabec.out hTz HG6dabec.out)
              have HO9z := Lib.hid (ownT_touch HO9dabec.out hTz HG6dabec.out (by decide))
              have HBz := Lib.hid (show Below w.heap.size w wz from HBdabec.out.trans (hTz.below HN6.out.1 HBdabec.out.size))
              clear hz hTz hsz
              refine hK.out _ _ HSz.out (fun hHeld => ?_)
              clear hK K
              try simp only [Act.put, List.setIfInBounds_toArray, List.set_cons_zero, List.set_cons_succ]
              clear hHeld
              refine wpAnyH_done (by kernel_rfl) ?_ _
              go_wp2_with fail
              go_meet
              case rel => exact ⟨_, rfl, ⟨g6, r1, r2, c1, c2, nd, nc, D1, D2, .slice A9 n9 c9, rfl, Hz.out, HL1z.out, HL2z.out, Lib.hid ⟨HD.out.len.out, HC.out.len.out⟩, Lib.hid ⟨HC1.out.symm, HC2.out.symm⟩, by rw [HC1.out]; exact HM1.out.2.1, by rw [HC2.out]; exact HM2.out.2.1, HO9z.out, HM1.out.1, HM2.out.1, HNE2.out, HM1.out.2.2, HM2.out.2.2⟩, HSz.out, HBz.out, HYz.out⟩
          · intro K hK
            refine step_alloc_seg (by rfl) 25 rfl 5 zeroPkF zeroPk ?_
            intro wdae hC hB hs
            obtain ⟨g6, hg6⟩ : ∃ g, g = wda.heap.size := ⟨_, rfl⟩
            have HN6 := Lib.hid (show w.heap.size ≤ g6 ∧ ga ≠ g6 ∧ wr.heap.size ≤ g6 ∧ gA ≠ g6 ∧ gO ≠ g6 from ⟨by have := HBda.out.size; omega, by have := HSda.out.lt; omega, by have := HYda.out.z.size; omega, by have := HYda.out.a.lt; omega, by have := HYda.out.o.lt; omega⟩)
            rw [← hg6] at hC ⊢
            have HG6dae := Lib.hid hC
            clear hs hg6 hC
            have HSdae := Lib.hid (HSda.out.up hB)
            have HYdae := Lib.hid (HYda.out.up hB)
            have HBdae := Lib.hid (HBda.out.trans (hB.mono HBda.out.size))
            have HL1dae := Lib.hid (Lent.up HL1da.out hB)
            have HL2dae := Lib.hid (Room.up HL2da.out hB)
            clear hB
            refine hK.out _ _ HSdae.out (fun hHeld => ?_)
            clear hK K hHeld
            try simp only [Act.put, List.setIfInBounds_toArray, List.set_cons_zero, List.set_cons_succ]
            refine wpAnyH_ready (rs := [9]) (by kernel_rfl) (by simp) ?_
            refine AllReadyH.cons (o := { dst := some 36, op := Op.call { callee := Callee.value (Operand.func 7), args := #[Operand.tmp 35], argTypes := #[23] }, type := 23, pos := "law.go:34", after := #[{ on := 8, ground := Ground.data }, { on := 6, ground := Ground.chain }], guard := none }) rfl ?_ ?_
            rotate_left
            · exact AllReadyH.nil
            intro K hK
            go_simp
            go_at_call 7
            refine (copyTables_own wdae At nt ct k.tabs (HTT.out.up HBdae.out) HN.out.2.2).mono ?_
            rintro e wdaeb ⟨v9, rfl, hO, hB⟩
            have HO9daeb := Lib.hid (ownR_base (base' := w.heap.size) hO HBdae.out.size)
            clear hO
            obtain ⟨A9, n9, c9, rfl, -⟩ := OwnR.form HO9daeb.out
            have HSdaeb := Lib.hid (HSdae.out.up hB)
            have HYdaeb := Lib.hid (HYdae.out.up hB)
            have HBdaeb := Lib.hid (HBdae.out.trans (hB.mono HBdae.out.size))
            have HL1daeb := Lib.hid (Lent.up HL1dae.out hB)
            have HL2daeb := Lib.hid (Room.up HL2dae.out hB)
            have HG6daeb := Lib.hid (HG6dae.out.up hB)
            clear hB
            go_simp
            refine hK.out _ _ HSdaeb.out (fun hHeld => ?_)
            clear hK K hHeld
            try simp only [Act.put, List.setIfInBounds_toArray, List.set_cons_zero, List.set_cons_succ]
            refine wpAnyH_ready (rs := [12]) (by kernel_rfl) (by simp) ?_
            refine AllReadyH.cons (o := { dst := some 39, op := Op.call { callee := Callee.value (Operand.func 6), args := #[Operand.tmp 6, Operand.tmp 38], argTypes := #[28, 22] }, type := 22, pos := "law.go:34", after := #[{ on := 11, ground := Ground.data }, { on := 9, ground := Ground.chain }], guard := none }) rfl ?_ ?_
            rotate_left
            · exact AllReadyH.nil
            intro K hK
            go_simp
            go_at_call 6
            refine (Ln.lend_any wdaeb g4 rb2 R2 HL2daeb.out Ac nc cc k.code HC.out.len.out HN.out.2.1 HR.out.len.2 (HC.out.up HBdaeb.out).byt (fun _ b off e => ?_) w.heap.size HG.out.2.1 HR.out.ge2).mono ?_
            · have h1 := HC.out.lt b off e
              have h2 := HG.out
              omega
            rintro e wdaebc ⟨r2, D2, rfl, hL, hor, hmm, hk, hB⟩
            have HKdaebc := Lib.hid (show LendK wdaeb g4 r2 rb2 wdaebc from ⟨hk, hor, room_old HL2daeb.out, Room.blk HL2daeb.out⟩)
            have HM2 := Lib.hid (show w.heap.size ≤ r2 ∧ k.code.length + (k.code.length + 70) + D2.length ≤ 1099511627776 ∧ (Z r2 ∨ wr.heap.size ≤ r2) from ⟨by rcases hor with h1 | h1; exact HR.out.ge2 r2 h1.symm; rw [h1]; exact HBdaeb.out.size, hmm, by rcases hor with h1 | h1; exact .inl (HR.out.z2 r2 h1.symm); right; have := HYdaeb.out.z.size; omega⟩)
            have HYdaebc := Lib.hid (HYdaeb.out.lend HKdaebc.out hB.size HR.out.zA.2.2.2 HR.out.z2)
            have HSdaebc := Lib.hid (show FB wdaebc ga 25 5 X from HKdaebc.out.blk HSdaeb.out (by decide) (by obtain ⟨cs, h1⟩ := Room.blk HL2daeb.out; exact blk_ne HSdaeb.out h1 (by decide)))
            have HBdaebc := Lib.hid (HBdaeb.out.trans hB)
            have HNE2 := Lib.hid (show r1 ≠ r2 from fun e => by
              rcases hor with h1 | h1
              · exact HNE1.out r2 h1.symm e
              · have := HL1daeb.out.2.1.lt
                omega)
            have HL1daebc := Lib.hid (HKdaebc.out.otherLent HL1daeb.out HG.out.2.2 (fun e => HNE1.out r1 e rfl))
            have HL2daebc := Lib.hid hL
            have HO9daebc := Lib.hid (show OwnR 60 2 tabF wdaebc w.heap.size (.slice A9 n9 c9) k.tabs from HKdaebc.out.rows HO9daeb.out (by decide) (by decide))
            have HG6daebc := Lib.hid (show FB wdaebc g6 25 5 zeroPkF from HKdaebc.out.blk HG6daeb.out (by decide) (by obtain ⟨cs, h1⟩ := HKdaebc.out.own; exact blk_ne HG6daeb.out h1 (by decide)))
            clear hL hor hmm hk hB
            obtain ⟨c2, hc2⟩ : ∃ c, c = k.code.length + (k.code.length + 70) + D2.length := ⟨_, rfl⟩
            rw [← hc2, HC.out.len.out]
            have HC2 := Lib.hid hc2
            clear hc2
            go_simp
            refine hK.out _ _ HSdaebc.out (fun hHeld => ?_)
            clear hK K hHeld
            try simp only [Act.put, List.setIfInBounds_toArray, List.set_cons_zero, List.set_cons_succ]
            have hHeld := HSdaebc.out
            refine wpAnyH_take (i := 13) (oi := { dst := some 40, op := Op.build 25 #[(0, Operand.tmp 28), (1, Operand.tmp 30), (2, Operand.tmp 33), (3, Operand.tmp 36), (4, Operand.tmp 39)], type := 25, pos := "law.go:34", after := #[{ on := 1, ground := Ground.data }, { on := 3, ground := Ground.data }, { on := 6, ground := Ground.data }, { on := 9, ground := Ground.data }, { on := 12, ground := Ground.data }], guard := none }) (v := .agg #[.int .i64 k.lo, .int .i64 k.hi, .slice (some ⟨r1, 0, none⟩) nd c1, .slice A9 n9 c9, .slice (some ⟨r2, 0, none⟩) nc c2]) rfl (by kernel_rfl) (by kernel_rfl) (by kernel_rfl) (fun _ _ _ h => h) (Or.inl ⟨by rfl, ?_⟩) (by assumption) ?_
            · intro w hSw
              go_simp
            try simp only [Act.put, List.setIfInBounds_toArray, List.set_cons_zero, List.set_cons_succ]
            clear hHeld
            refine wpAnyH_ready (rs := [15]) (by kernel_rfl) (by simp) ?_
            refine AllReadyH.cons (o := { dst := none, op := Op.store 25 (Operand.tmp 10) (Operand.tmp 40), type := 0, pos := "law.go:34", after := #[{ on := 14, ground := Ground.data }, { on := 13, ground := Ground.data }, { on := 12, ground := Ground.chain }, { on := 0, ground := Ground.phase }, { on := 1, ground := Ground.phase }, { on := 2, ground := Ground.phase }, { on := 3, ground := Ground.phase }, { on := 4, ground := Ground.phase }, { on := 5, ground := Ground.phase }, { on := 6, ground := Ground.phase }, { on := 7, ground := Ground.phase }, { on := 8, ground := Ground.phase }, { on := 9, ground := Ground.phase }, { on := 10, ground := Ground.phase }, { on := 11, ground := Ground.phase }, { on := 12, ground := Ground.phase }, { on := 13, ground := Ground.phase }, { on := 14, ground := Ground.phase }], guard := none }) rfl ?_ ?_
            rotate_left
            · exact AllReadyH.nil
            intro K hK
            refine step_store_seg (by rfl) 25 _ _ rfl g6 0 25 5 5 zeroPkF (pkF k.lo k.hi (.slice (some ⟨r1, 0, none⟩) nd c1) (.slice A9 n9 c9) (.slice (some ⟨r2, 0, none⟩) nc c2)) rfl rfl HG6daebc.out (by omega) sizePk (pkF_one rfl rfl rfl) ?_
            intro wz hz hTz hsz
            have Hz := Lib.hid (show FB wz g6 25 5 (pkF k.lo k.hi (.slice (some ⟨r1, 0, none⟩) nd c1) (.slice A9 n9 c9) (.slice (some ⟨r2, 0, none⟩) nc c2)) from hz.congr fun q hq => by unfold updR; rw [if_pos (by omega), Nat.sub_zero])
            have HSz := Lib.hid (show FB wz ga 25 5 X from HSdaebc.out.touch hTz HN6.out.2.1)
            have HYz := Lib.hid (HYdaebc.out.touch hTz hTz.size HN6.out.2.2.1 HN6.out.2.2.2.1 HN6.out.2.2.2.2)
            have HL1z := Lib.hid (show Lent wz g3 r1 k.data D1 from lent_touch HL1daebc.out hTz HG6daebc.out)
            have HL2z := Lib.hid (show Lent wz g4 r2 k.code D2 from lent_touch HL2daebc.out hTz HG6daebc.out)
            have HO9z := Lib.hid (ownT_touch HO9daebc.out hTz HG6daebc.out (by decide))
            have HBz := Lib.hid (show Below w.heap.size w wz from HBdaebc.out.trans (hTz.below HN6.out.1 HBdaebc.out.size))
            clear hz hTz hsz
            refine hK.out _ _ HSz.out (fun hHeld => ?_)
            clear hK K
            try simp only [Act.put, List.setIfInBounds_toArray, List.set_cons_zero, List.set_cons_succ]
            clear hHeld
            refine wpAnyH_done (by kernel_rfl) ?_ _
            go_wp2_with fail
            go_meet
            case rel => exact ⟨_, rfl, ⟨g6, r1, r2, c1, c2, nd, nc, D1, D2, .slice A9 n9 c9, rfl, Hz.out, HL1z.out, HL2z.out, Lib.hid ⟨HD.out.len.out, HC.out.len.out⟩, Lib.hid ⟨HC1.out.symm, HC2.out.symm⟩, by rw [HC1.out]; exact HM1.out.2.1, by rw [HC2.out]; exact HM2.out.2.1, HO9z.out, HM1.out.1, HM2.out.1, HNE2.out, HM1.out.2.2, HM2.out.2.2⟩, HSz.out, HBz.out, HYz.out⟩
        · intro K hK
          refine step_alloc_seg (by rfl) 25 rfl 5 zeroPkF zeroPk ?_
          intro wde hC hB hs
          obtain ⟨g6, hg6⟩ : ∃ g, g = wd.heap.size := ⟨_, rfl⟩
          have HN6 := Lib.hid (show w.heap.size ≤ g6 ∧ ga ≠ g6 ∧ wr.heap.size ≤ g6 ∧ gA ≠ g6 ∧ gO ≠ g6 from ⟨by have := HBd.out.size; omega, by have := HSd.out.lt; omega, by have := HYd.out.z.size; omega, by have := HYd.out.a.lt; omega, by have := HYd.out.o.lt; omega⟩)
          rw [← hg6] at hC ⊢
          have HG6de := Lib.hid hC
          clear hs hg6 hC
          have HSde := Lib.hid (HSd.out.up hB)
          have HYde := Lib.hid (HYd.out.up hB)
          have HBde := Lib.hid (HBd.out.trans (hB.mono HBd.out.size))
          have HL1de := Lib.hid (Room.up HL1d.out hB)
          have HL2de := Lib.hid (Room.up HL2d.out hB)
          clear hB
          refine hK.out _ _ HSde.out (fun hHeld => ?_)
          clear hK K hHeld
          try simp only [Act.put, List.setIfInBounds_toArray, List.set_cons_zero, List.set_cons_succ]
          refine wpAnyH_ready (rs := [6]) (by kernel_rfl) (by simp) ?_
          refine AllReadyH.cons (o := { dst := some 33, op := Op.call { callee := Callee.value (Operand.func 6), args := #[Operand.tmp 5, Operand.tmp 32], argTypes := #[28, 22] }, type := 22, pos := "law.go:34", after := #[{ on := 5, ground := Ground.data }], guard := none }) rfl ?_ ?_
          rotate_left
          · exact AllReadyH.nil
          intro K hK
          go_simp
          go_at_call 6
          refine (Ln.lend_any wde g3 rb1 R1 HL1de.out Ad nd cd k.data HD.out.len.out HN.out.1 HR.out.len.1 (HD.out.up HBde.out).byt (fun _ b off e => ?_) w.heap.size HG.out.1 HR.out.ge1).mono ?_
          · have h1 := HD.out.lt b off e
            have h2 := HG.out
            omega
          rintro e wdea ⟨r1, D1, rfl, hL, hor, hmm, hk, hB⟩
          have HKdea := Lib.hid (show LendK wde g3 r1 rb1 wdea from ⟨hk, hor, room_old HL1de.out, Room.blk HL1de.out⟩)
          have HM1 := Lib.hid (show w.heap.size ≤ r1 ∧ k.data.length + (k.data.length + 70) + D1.length ≤ 1099511627776 ∧ (Z r1 ∨ wr.heap.size ≤ r1) from ⟨by rcases hor with h1 | h1; exact HR.out.ge1 r1 h1.symm; rw [h1]; exact HBde.out.size, hmm, by rcases hor with h1 | h1; exact .inl (HR.out.z1 r1 h1.symm); right; have := HYde.out.z.size; omega⟩)
          have HYdea := Lib.hid (HYde.out.lend HKdea.out hB.size HR.out.zA.2.2.1 HR.out.z1)
          have HSdea := Lib.hid (show FB wdea ga 25 5 X from HKdea.out.blk HSde.out (by decide) (by obtain ⟨cs, h1⟩ := Room.blk HL1de.out; exact blk_ne HSde.out h1 (by decide)))
          have HBdea := Lib.hid (HBde.out.trans hB)
          have HL2dea := Lib.hid (HKdea.out.otherRoom HL2de.out (fun e => HG.out.2.2 e.symm) (fun x hx e => HR.out.ne x e hx))
          have HL1dea := Lib.hid hL
          have HNE1 := Lib.hid (show ∀ x, rb2 = some x → r1 ≠ x from fun x hx e => by
            subst e
            rcases hor with h1 | h1
            · exact HR.out.ne r1 h1.symm hx
            · obtain ⟨cs, h2⟩ := room_old HL2de.out r1 hx
              have := h2.lt
              omega)
          have HG6dea := Lib.hid (show FB wdea g6 25 5 zeroPkF from HKdea.out.blk HG6de.out (by decide) (by obtain ⟨cs, h1⟩ := HKdea.out.own; exact blk_ne HG6de.out h1 (by decide)))
          clear hL hor hmm hk hB
          obtain ⟨c1, hc1⟩ : ∃ c, c = k.data.length + (k.data.length + 70) + D1.length := ⟨_, rfl⟩
          rw [← hc1, HD.out.len.out]
          have HC1 := Lib.hid hc1
          clear hc1
          go_simp
          refine hK.out _ _ HSdea.out (fun hHeld => ?_)
          clear hK K hHeld
          try simp only [Act.put, List.setIfInBounds_toArray, List.set_cons_zero, List.set_cons_succ]
          refine wpAnyH_ready (rs := [9]) (by kernel_rfl) (by simp) ?_
          refine AllReadyH.cons (o := { dst := some 36, op := Op.call { callee := Callee.value (Operand.func 7), args := #[Operand.tmp 35], argTypes := #[23] }, type := 23, pos := "law.go:34", after := #[{ on := 8, ground := Ground.data }, { on := 6, ground := Ground.chain }], guard := none }) rfl ?_ ?_
          rotate_left
          · exact AllReadyH.nil
          intro K hK
          go_simp
          go_at_call 7
          refine (copyTables_own wdea At nt ct k.tabs (HTT.out.up HBdea.out) HN.out.2.2).mono ?_
          rintro e wdeab ⟨v9, rfl, hO, hB⟩
          have HO9deab := Lib.hid (ownR_base (base' := w.heap.size) hO HBdea.out.size)
          clear hO
          obtain ⟨A9, n9, c9, rfl, -⟩ := OwnR.form HO9deab.out
          have HSdeab := Lib.hid (HSdea.out.up hB)
          have HYdeab := Lib.hid (HYdea.out.up hB)
          have HBdeab := Lib.hid (HBdea.out.trans (hB.mono HBdea.out.size))
          have HL1deab := Lib.hid (Lent.up HL1dea.out hB)
          have HL2deab := Lib.hid (Room.up HL2dea.out hB)
          have HG6deab := Lib.hid (HG6dea.out.up hB)
          clear hB
          go_simp
          refine hK.out _ _ HSdeab.out (fun hHeld => ?_)
          clear hK K hHeld
          try simp only [Act.put, List.setIfInBounds_toArray, List.set_cons_zero, List.set_cons_succ]
          refine wpAnyH_ready (rs := [12]) (by kernel_rfl) (by simp) ?_
          refine AllReadyH.cons (o := { dst := some 39, op := Op.call { callee := Callee.value (Operand.func 6), args := #[Operand.tmp 6, Operand.tmp 38], argTypes := #[28, 22] }, type := 22, pos := "law.go:34", after := #[{ on := 11, ground := Ground.data }, { on := 9, ground := Ground.chain }], guard := none }) rfl ?_ ?_
          rotate_left
          · exact AllReadyH.nil
          intro K hK
          go_simp
          go_at_call 6
          refine (Ln.lend_any wdeab g4 rb2 R2 HL2deab.out Ac nc cc k.code HC.out.len.out HN.out.2.1 HR.out.len.2 (HC.out.up HBdeab.out).byt (fun _ b off e => ?_) w.heap.size HG.out.2.1 HR.out.ge2).mono ?_
          · have h1 := HC.out.lt b off e
            have h2 := HG.out
            omega
          rintro e wdeabc ⟨r2, D2, rfl, hL, hor, hmm, hk, hB⟩
          have HKdeabc := Lib.hid (show LendK wdeab g4 r2 rb2 wdeabc from ⟨hk, hor, room_old HL2deab.out, Room.blk HL2deab.out⟩)
          have HM2 := Lib.hid (show w.heap.size ≤ r2 ∧ k.code.length + (k.code.length + 70) + D2.length ≤ 1099511627776 ∧ (Z r2 ∨ wr.heap.size ≤ r2) from ⟨by rcases hor with h1 | h1; exact HR.out.ge2 r2 h1.symm; rw [h1]; exact HBdeab.out.size, hmm, by rcases hor with h1 | h1; exact .inl (HR.out.z2 r2 h1.symm); right; have := HYdeab.out.z.size; omega⟩)
          have HYdeabc := Lib.hid (HYdeab.out.lend HKdeabc.out hB.size HR.out.zA.2.2.2 HR.out.z2)
          have HSdeabc := Lib.hid (show FB wdeabc ga 25 5 X from HKdeabc.out.blk HSdeab.out (by decide) (by obtain ⟨cs, h1⟩ := Room.blk HL2deab.out; exact blk_ne HSdeab.out h1 (by decide)))
          have HBdeabc := Lib.hid (HBdeab.out.trans hB)
          have HNE2 := Lib.hid (show r1 ≠ r2 from fun e => by
            rcases hor with h1 | h1
            · exact HNE1.out r2 h1.symm e
            · have := HL1deab.out.2.1.lt
              omega)
          have HL1deabc := Lib.hid (HKdeabc.out.otherLent HL1deab.out HG.out.2.2 (fun e => HNE1.out r1 e rfl))
          have HL2deabc := Lib.hid hL
          have HO9deabc := Lib.hid (show OwnR 60 2 tabF wdeabc w.heap.size (.slice A9 n9 c9) k.tabs from HKdeabc.out.rows HO9deab.out (by decide) (by decide))
          have HG6deabc := Lib.hid (show FB wdeabc g6 25 5 zeroPkF from HKdeabc.out.blk HG6deab.out (by decide) (by obtain ⟨cs, h1⟩ := HKdeabc.out.own; exact blk_ne HG6deab.out h1 (by decide)))
          clear hL hor hmm hk hB
          obtain ⟨c2, hc2⟩ : ∃ c, c = k.code.length + (k.code.length + 70) + D2.length := ⟨_, rfl⟩
          rw [← hc2, HC.out.len.out]
          have HC2 := Lib.hid hc2
          clear hc2
          go_simp
          refine hK.out _ _ HSdeabc.out (fun hHeld => ?_)
          clear hK K hHeld
          try simp only [Act.put, List.setIfInBounds_toArray, List.set_cons_zero, List.set_cons_succ]
          have hHeld := HSdeabc.out
          refine wpAnyH_take (i := 13) (oi := { dst := some 40, op := Op.build 25 #[(0, Operand.tmp 28), (1, Operand.tmp 30), (2, Operand.tmp 33), (3, Operand.tmp 36), (4, Operand.tmp 39)], type := 25, pos := "law.go:34", after := #[{ on := 1, ground := Ground.data }, { on := 3, ground := Ground.data }, { on := 6, ground := Ground.data }, { on := 9, ground := Ground.data }, { on := 12, ground := Ground.data }], guard := none }) (v := .agg #[.int .i64 k.lo, .int .i64 k.hi, .slice (some ⟨r1, 0, none⟩) nd c1, .slice A9 n9 c9, .slice (some ⟨r2, 0, none⟩) nc c2]) rfl (by kernel_rfl) (by kernel_rfl) (by kernel_rfl) (fun _ _ _ h => h) (Or.inl ⟨by rfl, ?_⟩) (by assumption) ?_
          · intro w hSw
            go_simp
          try simp only [Act.put, List.setIfInBounds_toArray, List.set_cons_zero, List.set_cons_succ]
          clear hHeld
          refine wpAnyH_ready (rs := [15]) (by kernel_rfl) (by simp) ?_
          refine AllReadyH.cons (o := { dst := none, op := Op.store 25 (Operand.tmp 10) (Operand.tmp 40), type := 0, pos := "law.go:34", after := #[{ on := 14, ground := Ground.data }, { on := 13, ground := Ground.data }, { on := 12, ground := Ground.chain }, { on := 0, ground := Ground.phase }, { on := 1, ground := Ground.phase }, { on := 2, ground := Ground.phase }, { on := 3, ground := Ground.phase }, { on := 4, ground := Ground.phase }, { on := 5, ground := Ground.phase }, { on := 6, ground := Ground.phase }, { on := 7, ground := Ground.phase }, { on := 8, ground := Ground.phase }, { on := 9, ground := Ground.phase }, { on := 10, ground := Ground.phase }, { on := 11, ground := Ground.phase }, { on := 12, ground := Ground.phase }, { on := 13, ground := Ground.phase }, { on := 14, ground := Ground.phase }], guard := none }) rfl ?_ ?_
          rotate_left
          · exact AllReadyH.nil
          intro K hK
          refine step_store_seg (by rfl) 25 _ _ rfl g6 0 25 5 5 zeroPkF (pkF k.lo k.hi (.slice (some ⟨r1, 0, none⟩) nd c1) (.slice A9 n9 c9) (.slice (some ⟨r2, 0, none⟩) nc c2)) rfl rfl HG6deabc.out (by omega) sizePk (pkF_one rfl rfl rfl) ?_
          intro wz hz hTz hsz
          have Hz := Lib.hid (show FB wz g6 25 5 (pkF k.lo k.hi (.slice (some ⟨r1, 0, none⟩) nd c1) (.slice A9 n9 c9) (.slice (some ⟨r2, 0, none⟩) nc c2)) from hz.congr fun q hq => by unfold updR; rw [if_pos (by omega), Nat.sub_zero])
          have HSz := Lib.hid (show FB wz ga 25 5 X from HSdeabc.out.touch hTz HN6.out.2.1)
          have HYz := Lib.hid (HYdeabc.out.touch hTz hTz.size HN6.out.2.2.1 HN6.out.2.2.2.1 HN6.out.2.2.2.2)
          have HL1z := Lib.hid (show Lent wz g3 r1 k.data D1 from lent_touch HL1deabc.out hTz HG6deabc.out)
          have HL2z := Lib.hid (show Lent wz g4 r2 k.code D2 from lent_touch HL2deabc.out hTz HG6deabc.out)
          have HO9z := Lib.hid (ownT_touch HO9deabc.out hTz HG6deabc.out (by decide))
          have HBz := Lib.hid (show Below w.heap.size w wz from HBdeabc.out.trans (hTz.below HN6.out.1 HBdeabc.out.size))
          clear hz hTz hsz
          refine hK.out _ _ HSz.out (fun hHeld => ?_)
          clear hK K
          try simp only [Act.put, List.setIfInBounds_toArray, List.set_cons_zero, List.set_cons_succ]
          clear hHeld
          refine wpAnyH_done (by kernel_rfl) ?_ _
          go_wp2_with fail
          go_meet
          case rel => exact ⟨_, rfl, ⟨g6, r1, r2, c1, c2, nd, nc, D1, D2, .slice A9 n9 c9, rfl, Hz.out, HL1z.out, HL2z.out, Lib.hid ⟨HD.out.len.out, HC.out.len.out⟩, Lib.hid ⟨HC1.out.symm, HC2.out.symm⟩, by rw [HC1.out]; exact HM1.out.2.1, by rw [HC2.out]; exact HM2.out.2.1, HO9z.out, HM1.out.1, HM2.out.1, HNE2.out, HM1.out.2.2, HM2.out.2.2⟩, HSz.out, HBz.out, HYz.out⟩
      case rest =>
        clear HF9 HB9 HY9 HR19 HR29 HX0
        obtain ⟨w10, hw10, ⟨g6, r1, r2, c1, c2, nd', nc', D1, D2, vt6, rfl, hF6, hL1, hL2, HLN, HCN, hc1, hc2, hO6, hr1, hr2, hr12, hz1, hz2⟩, hFA, hB10, hy10⟩ := hcut
        subst hw10
        obtain rfl : nd' = nd := by rw [← HLN.out.1, HD.out.len.out]
        obtain rfl : nc' = nc := by rw [← HLN.out.2, HC.out.len.out]
        obtain ⟨Y, hY⟩ : ∃ Y, Y = pkF k.lo k.hi (.slice (some ⟨r1, 0, none⟩) nd' c1) vt6 (.slice (some ⟨r2, 0, none⟩) nc' c2) := ⟨_, rfl⟩
        rw [← hY] at hF6
        have HY := Lib.hid hY
        have HF6 := Lib.hid hF6
        have HL1 := Lib.hid hL1
        have HL2 := Lib.hid hL2
        have HFA := Lib.hid hFA
        have HB10 := Lib.hid hB10
        have HBY := Lib.hid hy10
        have HCB := Lib.hid (And.intro hc1 (And.intro hc2 (And.intro hr1 (And.intro hr2 (And.intro hr12 (And.intro hz1 hz2))))))
        have HPG := Lib.hid (show PkAt w10 (.slice (some ⟨r1, 0, none⟩) nd' c1) vt6 (.slice (some ⟨r2, 0, none⟩) nc' c2) k from by
          obtain ⟨A6, m6, c6, e6, hm6, hc6, hr6, -⟩ := OwnR.form hO6
          refine ⟨⟨_, _, _, rfl, ?_⟩, ⟨A6, m6, c6, e6, ⟨Lib.hid hm6.out.symm, hc6, hr6⟩⟩, ⟨_, _, _, rfl, ?_⟩⟩
          · have h := Lent.sl hL1 HLN.out.1; rw [HCN.out.1] at h; exact h
          · have h := Lent.sl hL2 HLN.out.2; rw [HCN.out.2] at h; exact h)
        clear hY hF6 hL1 hL2 hFA hB10 hc1 hc2 hr1 hr2 hr12 hO6 hy10 hz1 hz2
        obtain ⟨ee, hee⟩ : ∃ z, z = encE k := ⟨_, rfl⟩
        obtain ⟨LL, hLL⟩ : ∃ z, z = gotL k := ⟨_, rfl⟩
        have HE := Lib.hid hee
        have HLL := Lib.hid hLL
        have HLB := Lib.hid (show LL.length ≤ 131072 ∧ Bytes LL by rw [hLL]; exact ⟨gotL_le k, gotL_bytes HS.out⟩)
        clear hee hLL
        go_upto_region 13 with (first
          | (refine wpList_load_all rfl 25 _ rfl g6 rfl 25 5 Y _ HF6.out Try.underlying25 rfl sizePk ?_)
          | (go_at_call 8; rw [HY.out]; refine (encode_any w10 k _ _ _ HPG.out HS.out.bd HS.out.bc HS.out.code (by have := HS.out.tabs; omega)).mono ?_; (intro e w11 hR); (obtain ⟨hB11, A1, n1, q1, rfl, hO11, hS11⟩ := enc_uni hR); rw [← HY.out, ← HE.out]; rw [← HLL.out] at hO11 hS11; (have HO11 := Lib.hid hO11); (have HS11 := Lib.hid hS11); (have HB11 := Lib.hid hB11); clear hR hB11 hO11 hS11))
        have HFA11 := Lib.hid (HFA.out.up HB11.out)
        have HBw11 := Lib.hid (HB10.out.trans (HB11.out.mono HB10.out.size))
        go_upto_region 14 with (first
          | (refine wpList_load_all rfl 25 _ rfl ga rfl 25 5 X _ HFA11.out Try.underlying25 rfl sizePk ?_)
          | (go_at_call 10; rw [HX.out]; refine (copyPack_any w11 k _ _ _ (HP.out.up HBw11.out) HS.out.data HS.out.code HS.out.tabs).mono ?_; rintro e w12 ⟨yd, yt, yc, rfl, hP12, hB12⟩; (have HP12 := Lib.hid hP12); (have HB12k := Lib.hid hB12); clear hP12 hB12; rw [← HX.out]; (obtain ⟨V, hV⟩ : ∃ V, V = pkF k.lo k.hi yd yt yc := ⟨_, rfl⟩); rw [← hV]; (have HV := Lib.hid hV); clear hV)
          | (go_at_call 9; rw [HV.out]; refine (rencode_any w12 k _ _ _ HP12.out HS.out.bd HS.out.bc HS.out.code (by have := HS.out.tabs; omega)).mono ?_; (intro e w13 hR); (obtain ⟨hB13, A2, n2, q2, rfl, hO13, hS13⟩ := enc_uni hR); rw [← HV.out, ← HE.out]; rw [← HLL.out] at hO13; (have HQ12 := Lib.hid (show OwnB w13 w10.heap.size (.slice A2 n2 q2) LL from hO13.mono (Nat.le_trans HB11.out.size HB12k.out.size))); (have HB13k := Lib.hid (HB12k.out.trans (hB13.mono HB12k.out.size))); clear hR hB13 hO13 hS13))
        have HB13g := Lib.hid (HB11.out.trans (HB13k.out.mono HB11.out.size))
        have HB13 := Lib.hid (HB10.out.trans (HB13g.out.mono HB10.out.size))
        have HO13 := Lib.hid (ownB_up HO11.out HB13k.out)
        have HS11b := Lib.hid (HS11.out.up HB13k.out)
        have HFA13 := Lib.hid (HFA.out.up HB13g.out)
        have HF613 := Lib.hid (HF6.out.up HB13g.out)
        have HBY13 := Lib.hid (HBY.out.up HB13g.out)
        have HPG13 := Lib.hid (HPG.out.up HB13g.out)
        have HL113 := Lib.hid (Lent.up HL1.out HB13g.out)
        have HL213 := Lib.hid (Lent.up HL2.out HB13g.out)
        have HLT2 := Lib.hid (show g3 < w10.heap.size ∧ r1 < w10.heap.size ∧ g4 < w10.heap.size ∧ r2 < w10.heap.size ∧ wr.heap.size ≤ w10.heap.size from ⟨HL1.out.2.2.lt, HL1.out.2.1.lt, HL2.out.2.2.lt, HL2.out.2.1.lt, HBY.out.z.size⟩)
        have HSK := Lib.hid (samePack_any w13 k k _ _ _ _ _ _ HPG13.out (HP.out.up HB13.out) HS.out.bd HS.out.bc HS.out.bd HS.out.bc (by have := HS.out.tabs; omega) (by have := HS.out.tabs; omega))
        rw [samePk_self] at HSK
        clear HFA11 HBw11 HP12 HB12k HV HB13k HB13g HO11 HS11 HFA HF6 HBY HPG HL1 HL2 HB11 HB10
        obtain rfl : n1 = LL.length := HS11b.out.len.out.symm
        obtain ⟨Aq, cq, hq, -⟩ := HQ12.out.form
        injection hq with hqa hqb hqc
        subst hqb
        clear Aq cq hqa hqc
        obtain ⟨ln, hln⟩ : ∃ z, z = LL.length := ⟨_, rfl⟩
        rw [← hln] at HS11b HQ12 HO13 ⊢
        have HLN2 := Lib.hid hln
        clear hln
        go_wp2_with (first
          | (refine wpList_load_cells rfl 25 _ rfl g6 0 rfl 5 Y _ (fb_cells HF613.out) Try.underlying25 rfl sizePk ?_)
          | (refine wpList_load_cells rfl 25 _ rfl ga 0 rfl 5 X _ (fb_cells HFA13.out) Try.underlying25 rfl sizePk ?_)
          | (go_at_call 11; rw [HY.out, HX.out]; refine HSK.out.mono ?_; rintro e w16 ⟨rfl, hB16⟩; rw [← HY.out, ← HX.out]
             have HB16 := Lib.hid (HB13.out.trans (hB16.mono HB13.out.size))
             have HFA16 := Lib.hid (HFA13.out.up hB16)
             have HL116 := Lib.hid (Lent.up HL113.out hB16)
             have HL216 := Lib.hid (Lent.up HL213.out hB16)
             have HO16 := Lib.hid (ownB_up HO13.out hB16)
             have HQ16 := Lib.hid (ownB_up HQ12.out hB16)
             have HBY16 := Lib.hid (HBY13.out.up hB16)
             clear hB16
             have x2 : w16.cell? ⟨ga, 2, none⟩ = some (.slice Ad nd' cd) := by rw [HFA16.out.cell 2 (by decide), HX.out]; rfl)
          | (go_at_call 12; refine (Ln.back_any w16 g3 r1 c1 k.data D1 HL116.out Ad nd' cd HD.out.len.out HN.out.1 HCN.out.1 HCB.out.1 (HD.out.up HB16.out).byt HS.out.bd w.heap.size HCB.out.2.2.1).mono ?_; rintro e w17 ⟨R1', hR1, hY1, hbk1, rfl, hroom1, hk1, hb1⟩
             have HB17 := Lib.hid (HB16.out.trans hb1)
             have HR1 := Lib.hid hroom1
             have HR1L := Lib.hid hR1
             have HBY17 := Lib.hid (HBY16.out.back hk1 HL116.out hb1.size HR.out.zA.2.2.1 HCB.out.2.2.2.2.2.1)
             have hg34 := HG.out.2.2
             have hgr : g4 ≠ r1 := blk_ne HL216.out.2.2 HL116.out.2.1 (by decide)
             have hrg : r2 ≠ g3 := blk_ne HL216.out.2.1 HL116.out.2.2 (by decide)
             have HL217 := Lib.hid (show Lent w17 g4 r2 k.code D2 from ⟨HL216.out.1, keep_blk hk1 HL216.out.2.1 hrg (fun e => HCB.out.2.2.2.2.1 e.symm), keep_blk hk1 HL216.out.2.2 (fun e => hg34 e.symm) hgr⟩)
             have HFA17 := Lib.hid (show FB w17 ga 25 5 X from keep_blk hk1 HFA16.out (blk_ne HFA16.out HL116.out.2.2 (by decide)) (blk_ne HFA16.out HL116.out.2.1 (by decide)))
             have HO17 := Lib.hid (show OwnB w17 w10.heap.size (.slice A1 ln q1) LL from keep_rows hk1 HO16.out HLT2.out.1 HLT2.out.2.1)
             have HQ17 := Lib.hid (show OwnB w17 w10.heap.size (.slice A2 ln q2) LL from keep_rows hk1 HQ16.out HLT2.out.1 HLT2.out.2.1)
             clear hR1 hY1 hbk1 hroom1 hk1 hb1 hg34 hgr hrg HFA16 HL116 HL216 HO16 HQ16 x2
             have x4 : w17.cell? ⟨ga, 4, none⟩ = some (.slice Ac nc' cc) := by rw [HFA17.out.cell 4 (by decide), HX.out]; rfl)
          | (go_at_call 12; refine (Ln.back_any w17 g4 r2 c2 k.code D2 HL217.out Ac nc' cc HC.out.len.out HN.out.2.1 HCN.out.2 HCB.out.2.1 (HC.out.up HB17.out).byt HS.out.bc w.heap.size HCB.out.2.2.2.1).mono ?_; rintro e w18 ⟨R2', hR2, hY2, hbk2, rfl, hroom2, hk2, hb2⟩
             have HB18 := Lib.hid (HB17.out.trans hb2)
             have HR2 := Lib.hid hroom2
             have HR2L := Lib.hid hR2
             have HBY18 := Lib.hid (HBY17.out.back hk2 HL217.out hb2.size HR.out.zA.2.2.2 HCB.out.2.2.2.2.2.2)
             have hg34 := HG.out.2.2
             have HR118 := Lib.hid (show Room w18 g3 (some r1) R1' from room_keep2 HR1.out hk2 hg34 (HCB.out.2.2.2.2.1) HL217.out)
             have HO18 := Lib.hid (show OwnB w18 w10.heap.size (.slice A1 ln q1) LL from keep_rows hk2 HO17.out HLT2.out.2.2.1 HLT2.out.2.2.2.1)
             have HQ18 := Lib.hid (show OwnB w18 w10.heap.size (.slice A2 ln q2) LL from keep_rows hk2 HQ17.out HLT2.out.2.2.1 HLT2.out.2.2.2.1)
             clear hR2 hY2 hbk2 hroom2 hk2 hb2 hg34 HFA17 HL217 HO17 HQ17 x4)
          | (go_at_call 13; refine (num_errno _ _).mono ?_; rintro e u ⟨rfl, rfl⟩)
          | (go_at_call 14; have HSB := sameBytes_any w18 A1 ln q1 A2 ln q2 LL LL HLN2.out.symm HLN2.out.symm (ownB_bytes HO18.out) (ownB_bytes HQ18.out) HLB.out.2 HLB.out.2; rw [decide_eq_true rfl] at HSB; refine HSB.mono ?_; rintro e w19 ⟨rfl, rfl⟩; clear HSB)
          | (go_at_call 15; refine (HR.out.bk.own HBY18.out.z HO18.out HLT2.out.2.2.2.2 HLN2.out.symm (by have := HLN2.out; have := HLB.out.1; omega) (by have := HLN2.out; have := HLB.out.1; omega) (by omega)).mono ?_; rintro e w20 ⟨rfl, hU, h0, h1⟩))
        go_roundw
        case rel =>
          have hne : ∀ b, b < w10.heap.size → (Value.slice A1 ln q1).ownBlock ≠ some b := fun b hb e => by have := (HO18.out.lt e).1; omega
          have hwr := HLT2.out.2.2.2.2
          have hww := HR.out.below.size
          have hA := HR.out.box.lt
          have hO := HR.out.boxO.lt
          have hzA := HR.out.zA
          have hs18 := HBY18.out.z.size
          have z1 : Z r1 ∨ (wr.heap.size ≤ r1 ∧ r1 < w18.heap.size) := HCB.out.2.2.2.2.2.1.imp id fun h => ⟨h, room_lt HR118.out⟩
          have z2 : Z r2 ∨ (wr.heap.size ≤ r2 ∧ r2 < w18.heap.size) := HCB.out.2.2.2.2.2.2.imp id fun h => ⟨h, room_lt HR2.out⟩
          have hg3 := HLT2.out.1
          have hg4 := HLT2.out.2.2.1
          have k3 := h1 g3 (.inl hzA.2.2.1) (hne _ hg3)
          have k4 := h1 g4 (.inl hzA.2.2.2) (hne _ hg4)
          have k1 := h1 r1 z1 (hne _ HLT2.out.2.1)
          have k2 := h1 r2 z2 (hne _ HLT2.out.2.2.2.1)
          refine ⟨j + 1, some r1, R1', some r2, R2', _, by go_num, by omega, Lib.hid ⟨HB18.out.trans ⟨h0.os, h0.tape, h0.output, h0.size, fun b hb => h1 b (.inl (HR.out.z0 b hb)) (hne b (by omega))⟩, (h1 gA (.inl hzA.1) (hne _ (by omega))).trans HBY18.out.a, (h1 gO (.inl hzA.2.1) (hne _ (by omega))).trans HBY18.out.o,
            room_eq HR118.out k3 k1, room_eq HR2.out k4 k2, ⟨by rw [HR1L.out]; exact HCB.out.1, by rw [HR2L.out]; exact HCB.out.2.1⟩, fun r h => by injection h with h; rw [← h]; exact HCB.out.2.2.1, fun r h => by injection h with h; rw [← h]; exact HCB.out.2.2.2.1, fun r h e => by injection h with h; injection e with e; exact HCB.out.2.2.2.2.1 (h.trans e.symm),
            fun b hb => ⟨.inl (HR.out.z0 b hb), hne b (by omega)⟩, ⟨⟨.inl hzA.1, hne _ (by omega)⟩, ⟨.inl hzA.2.1, hne _ (by omega)⟩, ⟨.inl hzA.2.2.1, hne _ hg3⟩, ⟨.inl hzA.2.2.2, hne _ hg4⟩⟩,
            fun r h => by injection h with h; rw [← h]; exact ⟨z1, hne _ HLT2.out.2.1⟩, fun r h => by injection h with h; rw [← h]; exact ⟨z2, hne _ HLT2.out.2.2.2.1⟩, hU.mono (by have := HLN2.out; have := HLB.out.1; omega) (by omega)⟩⟩
        case measure => simp [intOf]; omega
end Go.Proofs.Ytkfcfoidaalnlaa.Pak
