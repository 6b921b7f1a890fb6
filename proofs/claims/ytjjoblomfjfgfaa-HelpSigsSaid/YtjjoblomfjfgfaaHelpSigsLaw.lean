/- HelpSigs: the walk. -/
import Derived.Test.YtjjoblomfjfgfaaHS
namespace Go.Proofs.Ytjjoblomfjfgfaa
open Go.ChangeShapes Go.WideShapes Go.ChangeAt Go.RowKit
open Bits HM
set_option linter.unusedVariables false
set_option linter.unusedSimpArgs false

theorem intsAt_same {w w' : World} {A : Option Addr} {L : List Int} (h : IntsAt w A L) (hs : w.heap.size ≤ w'.heap.size) (hk : ∀ b, b < w.heap.size → (∀ off, A = some ⟨b, off, none⟩ → w'.heap[b]? = w.heap[b]?)) : IntsAt w' A L := fun hp => by
  obtain ⟨b, off, e, hlt, hc⟩ := h hp
  exact ⟨b, off, e, by omega, fun i hi => by
    rw [← hc i hi]
    exact World.cell?_of_block (a := ⟨b, off + i, none⟩) (hk b hlt off e)⟩
theorem Use.mono {Z : Nat → Prop} {W0 : World} {G T m T' m' : Nat} {w : World} (h : Use Z W0 G T m w) (hT : T ≤ T') (hm : m ≤ m') : Use Z W0 G T' m' w := by
  obtain ⟨tot, fv, wv, kv, fr, F, Ws, K, R, h1, h2, h3, h4⟩ := h
  exact ⟨tot, fv, wv, kv, fr, F, Ws, K, R, h1, h2, by omega, by omega⟩
/-- what two Sigs of one helper say is the same -/
theorem sig_same {id : Int} {L L' : List Int} {l l' h h' : Int} {nl nl' nh nh' is is' : Bool}
    (e : (L, l, h, nl, nh, is) = (match sigP id with | some (L, l, h, nl, nh) => (L, l, h, nl, nh, true) | none => ([], 0, 0, false, false, false)))
    (e' : (L', l', h', nl', nh', is') = (match sigP id with | some (L, l, h, nl, nh) => (L, l, h, nl, nh, true) | none => ([], 0, 0, false, false, false))) :
    L' = L ∧ l' = l ∧ h' = h ∧ nl' = nl ∧ nh' = nh ∧ is' = is := by
  have := e'.trans e.symm
  simpa only [Prod.mk.injEq] using this
set_option maxRecDepth 100000 in
theorem span_same {id : Int} {L : List Int} {l h : Int} {nl nh is : Bool}
    (e : (L, l, h, nl, nh, is) = (match sigP id with | some (L, l, h, nl, nh) => (L, l, h, nl, nh, true) | none => ([], 0, 0, false, false, false))) :
    ∀ w, (binOp .neq 38 (.agg #[.int .i64 l, .int .i64 h, .bool nl, .bool nh]) (.agg #[.int .i64 l, .int .i64 h, .bool nl, .bool nh])).run Try.prog w = .ok (.bool false) w := by
  rcases sig_cases id with h | rfl | rfl | rfl | rfl | rfl | rfl | rfl | rfl
  · rw [sigP_no h] at e
    simp only [Prod.mk.injEq] at e
    obtain ⟨rfl, rfl, rfl, rfl, rfl, rfl⟩ := e
    intro w; kernel_rfl
  all_goals
    (simp [sigP] at e
     obtain ⟨rfl, rfl, rfl, rfl, rfl, rfl⟩ := e
     intro w; kernel_rfl)
theorem own_at {w : World} {base : Nat} {A : Option Addr} {n c : Nat} {L : List Int} (h : OwnI w base (.slice A n c) L) : ∀ b off, A = some ⟨b, off, none⟩ → base ≤ b ∧ b < w.heap.size := by
  intro b off e
  refine h.lt ?_
  rcases h.2 with ⟨e2, _⟩ | ⟨g, cap, cur, e2, _⟩
  · subst e; cases e2
  · subst e
    injection e2 with e2 _ _
    injection e2 with e2
    injection e2 with e2 e3 _
    subst e2 e3
    rfl

set_option maxRecDepth 100000 in
set_option maxHeartbeats 4000000 in
theorem helpSigs_walk (w : World) (id : Int) (hid : -9223372036854775808 ≤ id ∧ id ≤ 9223372036854775807) : Calls Try.prog 4 #[.int .i64 id] w fun e w' => e = .returned (.bool true) ∧ Below w.heap.size w w' := by
  have hk := Lib.hid (known_any w)
  have hr := Lib.hid (fun id w => refSig_any id w)
  have hs := Lib.hid (fun id w => sig_any id w)
  go_enter Try.func4, Try.ntmps4
  go_upto_region 4 with (go_at_call 10; refine hk.out.mono ?_; rintro e w1 ⟨rfl, hB1⟩)
  have hG1 : Blk (w1.alloc (.cells #[.int .i64 0, .slice none 0 0, .slice none 0 0, .slice none 0 0, .slice none 0 0, .bool false] 36)) w1.heap.size 36 #[.int .i64 0, .slice none 0 0, .slice none 0 0, .slice none 0 0, .slice none 0 0, .bool false] := Blk.new _ _ _
  have hB2 := hB1.alloc hB1.size (.cells #[.int .i64 0, .slice none 0 0, .slice none 0 0, .slice none 0 0, .slice none 0 0, .bool false] 36)
  have hGw := hB1.size
  generalize w1.alloc (.cells #[.int .i64 0, .slice none 0 0, .slice none 0 0, .slice none 0 0, .slice none 0 0, .bool false] 36) = w2 at *
  generalize w1.heap.size = G at *
  clear hB1 hk
  go_upto_region 5 with (go_at_call 11; refine (hr.out _ _).mono ?_; rintro e w3 ⟨A, n, c, L, l, h, nl, nh, is, rfl, heq, hn, hn5, hown, hB3⟩)
  have hR := Blk.new w3 40 #[.slice A n c, .int .i64 l, .int .i64 h, .bool nl, .bool nh]
  have hG3 := (hG1.below hB3 hG1.lt).alloc (.cells #[.slice A n c, .int .i64 l, .int .i64 h, .bool nl, .bool nh] 40)
  have hB4 := (hB2.trans (hB3.mono hB2.size)).alloc (by have := hB2.size; have := hB3.size; omega) (.cells #[.slice A n c, .int .i64 l, .int .i64 h, .bool nl, .bool nh] 40)
  have hown4 : OwnI _ w2.heap.size (.slice A n c) L := World.ownsRow.alloc hown (.cells #[.slice A n c, .int .i64 l, .int .i64 h, .bool nl, .bool nh] 40)
  have hGl := hG1.lt
  have hgr : G < w3.heap.size := by have := hB3.size; omega
  generalize w3.alloc (.cells #[.slice A n c, .int .i64 l, .int .i64 h, .bool nl, .bool nh] 40) = W0 at *
  generalize w3.heap.size = gW at *
  have hU0 := Use.new hG3
  have hF := Lib.hid (show ∀ T m W, Use (fun b => b < W0.heap.size ∧ b ≠ G) W0 G T m W → Blk W gW 40 #[.slice A n c, .int .i64 l, .int .i64 h, .bool nl, .bool nh] ∧ IntsAt W A L ∧ Below w.heap.size w W from fun T m W hU => by
    obtain ⟨h1, h2⟩ := hU.below
    refine ⟨(h2 gW ⟨hR.lt, by omega⟩).trans hR, intsAt_same (ownI_ints hown4) h1.size fun b hb off e => h2 b ⟨hb, ?_⟩, hB4.trans ⟨h1.os, h1.tape, h1.output, h1.size, fun b hb => h2 b ⟨?_, by omega⟩⟩⟩
    · have := (own_at hown4 b off e).1; omega
    · have := hB4.size; omega)
  have hFB := Lib.hid (show ∀ W, Below 0 W0 W → (∀ b, (b < W0.heap.size ∧ b ≠ G) → W.heap[b]? = W0.heap[b]?) → Below w.heap.size w W from fun W h1 h2 => hB4.trans ⟨h1.os, h1.tape, h1.output, h1.size, fun b hb => h2 b ⟨by have := hB4.size; omega, by omega⟩⟩)
  have hss := Lib.hid (span_same heq)
  have HEQ := Lib.hid heq
  have HN := Lib.hid hn
  have HU0 := Lib.hid hU0
  clear hR hG3 hB4 hown4 hU0 heq hG1 hown hB2 hB3
  go_wp2_with fail
  go_loopw [6] (fun y wr => ∃ k : Nat, k ≤ 4 ∧ y = .int .i64 k ∧ Use (fun b => b < W0.heap.size ∧ b ≠ G) W0 G (5 * k) (2 * k) wr) (fun y _ => (4 - intOf y).toNat)
  case atStart => exact ⟨0, by omega, rfl, HU0.out⟩
  case round =>
    clear HU0
    obtain ⟨k, hk, rfl, hU⟩ := hrel
    by_cases hlt : k < 4
    · have f1 : (k : Int) < 4 := by omega
      have HU := Lib.hid hU
      clear hU
      go_upto_region 9 with (go_at_call 12; refine (hs.out _ _).mono ?_; rintro e w3 ⟨A', n', c', L', l', h', nl', nh', is', rfl, heq', hn', hn5', hown', hB3⟩)
      obtain ⟨rfl, rfl, rfl, rfl, rfl, rfl⟩ := sig_same HEQ.out heq'
      obtain rfl : n' = n := by have := HN.out; omega
      have hX := Blk.new w3 40 #[.slice A' n' c', .int .i64 l', .int .i64 h', .bool nl', .bool nh']
      have hB4 : Below wr.heap.size wr (w3.alloc (.cells #[.slice A' n' c', .int .i64 l', .int .i64 h', .bool nl', .bool nh'] 40)) := hB3.alloc hB3.size _
      have hown4 : OwnI (w3.alloc (.cells #[.slice A' n' c', .int .i64 l', .int .i64 h', .bool nl', .bool nh'] 40)) wr.heap.size (.slice A' n' c') L' := World.ownsRow.alloc hown' _
      generalize w3.alloc (.cells #[.slice A' n' c', .int .i64 l', .int .i64 h', .bool nl', .bool nh'] 40) = W4 at *
      generalize w3.heap.size = gX at *
      have hU4 := HU.out.past hB4
      obtain ⟨hW4, hA4, -⟩ := hF.out _ _ _ hU4
      have HX := Lib.hid (fun q i => ((hX.drewN q).cell i))
      have HW4 := Lib.hid (fun q i => ((hW4.drewN q).cell i))
      have x0 := hX.cell 0
      have x1 := hX.cell 1
      have x2 := hX.cell 2
      have x3 := hX.cell 3
      have x4 := hX.cell 4
      have y0 := hW4.cell 0
      have y1 := hW4.cell 1
      have y2 := hW4.cell 2
      have y3 := hW4.cell 3
      have y4 := hW4.cell 4
      simp only [List.getElem?_toArray, List.getElem?_cons_zero, List.getElem?_cons_succ] at x0 x1 x2 x3 x4 y0 y1 y2 y3 y4
      have hsame := Lib.hid (sameInts_any W4 A' A n' n' c' c L' L' HN.out HN.out (by omega) (by omega) (ownI_ints hown4) hA4)
      have hown := Lib.hid (fun q => own_any _ W0 G (5 * k) (2 * k) wr (W4.drewN q) HU.out (below_drewN hB4 q) (.slice A' n' c') L' n' (hown4.mono (Nat.le_refl _)) HN.out (by omega) (by omega) (by omega))
      have hsp := hss.out
      clear heq' hn' hown' hB3 hX hB4 hown4 hU4 hW4 hA4
      go_upto_region 11 with (first
        | (go_at_call 13; refine hsame.out.mono ?_; rintro e w5 ⟨rfl, q, rfl⟩; (have x5 := HX.out q 0); simp only [List.getElem?_toArray, List.getElem?_cons_zero, List.getElem?_cons_succ] at x5)
        | (go_at_call 14; refine (hown.out q).mono ?_; rintro e w5 ⟨rfl, hU5⟩; clear x5))
      have HU5 := Lib.hid hU5
      clear hU5 hown hsame hsp x0 x1 x2 x3 x4 y0 y1 y2 y3 y4 HX HW4
      have e1 : IntKind.i64.wrap ((k : Int) + 1) = (k : Int) + 1 := IntWalk.i64_in _ (by omega)
      go_upto_region 12 with (go_at_call 12; refine (hs.out _ _).mono ?_; rintro e w6 ⟨A2, n2, c2, L2, l2, h2, nl2, nh2, is2, rfl, heq2, hn2, hn25, hown2, hB6⟩)
      have hX2 := Blk.new w6 40 #[.slice A2 n2 c2, .int .i64 l2, .int .i64 h2, .bool nl2, .bool nh2]
      have hB6' : Below w5.heap.size w5 (w6.alloc (.cells #[.slice A2 n2 c2, .int .i64 l2, .int .i64 h2, .bool nl2, .bool nh2] 40)) := hB6.alloc hB6.size _
      have hat2 : IntsAt (w6.alloc (.cells #[.slice A2 n2 c2, .int .i64 l2, .int .i64 h2, .bool nl2, .bool nh2] 40)) A2 L2 := intsAt_below (ownI_ints hown2) ((Below.refl _ _).alloc (Nat.le_refl _) _)
      generalize w6.alloc (.cells #[.slice A2 n2 c2, .int .i64 l2, .int .i64 h2, .bool nl2, .bool nh2] 40) = W6 at *
      generalize w6.heap.size = g2 at *
      clear hown2 hB6
      go_upto_region 13 with (go_at_call 11; refine (hr.out _ _).mono ?_; rintro e w7 ⟨A3, n3, c3, L3, l3, h3, nl3, nh3, is3, rfl, heq3, hn3, hn35, hown3, hB7⟩)
      obtain ⟨rfl, rfl, rfl, rfl, rfl, rfl⟩ := sig_same heq2 heq3
      obtain rfl : n3 = n2 := by omega
      have hX3 := Blk.new w7 40 #[.slice A3 n3 c3, .int .i64 l3, .int .i64 h3, .bool nl3, .bool nh3]
      have hB7' : Below W6.heap.size W6 (w7.alloc (.cells #[.slice A3 n3 c3, .int .i64 l3, .int .i64 h3, .bool nl3, .bool nh3] 40)) := hB7.alloc hB7.size _
      have hat3 : IntsAt (w7.alloc (.cells #[.slice A3 n3 c3, .int .i64 l3, .int .i64 h3, .bool nl3, .bool nh3] 40)) A3 L3 := intsAt_below (ownI_ints hown3) ((Below.refl _ _).alloc (Nat.le_refl _) _)
      generalize w7.alloc (.cells #[.slice A3 n3 c3, .int .i64 l3, .int .i64 h3, .bool nl3, .bool nh3] 40) = W7 at *
      generalize w7.heap.size = g3 at *
      have hX2' := hX2.below hB7' hX2.lt
      have hat2' := intsAt_below hat2 hB7'
      have HX3 := Lib.hid (fun q i => ((hX3.drewN q).cell i))
      have HX2 := Lib.hid (fun q i => ((hX2'.drewN q).cell i))
      have x0 := hX3.cell 0
      have y0 := hX2'.cell 0
      simp only [List.getElem?_toArray, List.getElem?_cons_zero, List.getElem?_cons_succ] at x0 y0
      have hsame := Lib.hid (sameInts_any W7 A2 A3 n3 n3 c2 c3 L3 L3 hn3 hn3 (by omega) (by omega) hat2' hat3)
      have hsp := span_same heq3
      have HB := Lib.hid (show ∀ q, Below w5.heap.size w5 (W7.drewN q) from fun q => below_drewN (hB6'.trans (hB7'.mono hB6'.size)) q)
      clear hX3 hX2' hX2 hat2' hat2 hat3 hB6' hB7' hB7 hown3 heq2 heq3
      go_wp2_with (go_at_call 13; refine hsame.out.mono ?_; rintro e w8 ⟨rfl, q8, rfl⟩; (have x1 := HX3.out q8 1); (have x2 := HX3.out q8 2); (have x3 := HX3.out q8 3); (have x4 := HX3.out q8 4); (have y1 := HX2.out q8 1); (have y2 := HX2.out q8 2); (have y3 := HX2.out q8 3); (have y4 := HX2.out q8 4); simp only [List.getElem?_toArray, List.getElem?_cons_zero, List.getElem?_cons_succ] at x1 x2 x3 x4 y1 y2 y3 y4)
      refine ⟨⟨k + 1, by omega, rfl, (HU5.out.past (HB.out q8)).mono (by omega) (by omega)⟩, by simp [intOf]; omega⟩
    · have f1 : decide ((k : Int) < 4) = false := by simp; omega
      have hd := Lib.hid (done_any _ W0 G _ _ wr wr hU (Below.refl _ _) (by omega))
      have HL := Lib.hid (show ∀ W, Below 0 W0 W → (∀ b, (b < W0.heap.size ∧ b ≠ G) → W.heap[b]? = W0.heap[b]?) → Below w.heap.size w W from hFB.out)
      clear hU
      go_wp2_with fail
      go_at_call 15
      refine hd.out.mono ?_
      rintro e w8 ⟨rfl, h1, h2⟩
      have HB8 := Lib.hid (HL.out _ h1 h2)
      clear h1 h2
      go_wp2_with fail
      go_ret
      exact ⟨rfl, HB8.out⟩
end Go.Proofs.Ytjjoblomfjfgfaa
