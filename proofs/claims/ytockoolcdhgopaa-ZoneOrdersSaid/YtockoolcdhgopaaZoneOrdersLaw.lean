/- ZoneOrders: the walk of the law. -/
import Derived.Test.YtockoolcdhgopaaZOrd
namespace Go.Proofs.Ytockoolcdhgopaa
open Go.ChangeShapes Go.WideShapes Go.ChangeAt Go.RowKit
open Zon
set_option linter.unusedVariables false
set_option maxRecDepth 100000
set_option linter.unusedSimpArgs false
def cutA (A : Option Addr) (c k : Nat) : Option Addr := if c = k then A else A.map (·.add (k * 3))
theorem consAt_drop {w : World} {A : Option Addr} {c k : Nat} {L : List Con} (h : ConsAt w A L) (hc : L.length ≤ c) (hk : k ≤ L.length) : ConsAt w (cutA A c k) (L.drop k) := fun hp => by
  rw [List.length_drop] at hp
  obtain ⟨b, off, rfl, hl, hcell⟩ := h (by omega)
  refine ⟨b, off + k * 3, ?_, hl, fun j x hx => ?_⟩
  · unfold cutA
    rw [if_neg (by omega)]
    simp [addr_add]
  · rw [List.getElem?_drop] at hx
    have := hcell (k + j) x hx
    rw [show off + k * 3 + j * 3 = off + (k + j) * 3 by omega]
    exact this
theorem consAt_take {w : World} {A : Option Addr} {k : Nat} {L : List Con} (h : ConsAt w A L) : ConsAt w A (L.take k) := fun hp => by
  rw [List.length_take] at hp
  obtain ⟨b, off, rfl, hl, hcell⟩ := h (by omega)
  refine ⟨b, off, rfl, hl, fun j x hx => ?_⟩
  rw [List.getElem?_take] at hx
  split at hx
  · exact hcell j x hx
  · cases hx
theorem consZ_len (z : Zn) : (consZ z).length ≤ 3600 := by
  cases z with
  | none => exact Nat.zero_le _
  | some M => exact consN_len M 60
theorem tri_bnd {M : Tab} (h : Tight M) {p r q : Nat} (hp : p < 60) (hr : r < 60) (hq : q < 60) : M p r ≠ 3458764513820540928 → M r q ≠ 3458764513820540928 → M p q ≠ 3458764513820540928 ∧ M p q ≤ M p r + M r q := fun g1 g2 => by
  have := h.tri p r q hp hr hq g1 g2
  have b1 := h.bd p r hp hr g1
  have b2 := h.bd r q hr hq g2
  exact ⟨by omega, this⟩
theorem bv_inv {x c : Int} {i : Bool} (h : bv (bnd x) = .agg #[.bool i, .int .i64 c]) : (i = true → x ≠ 3458764513820540928 ∧ c = x) ∧ (x ≠ 3458764513820540928 → i = true ∧ c = x) := by
  unfold bnd at h
  by_cases e : x = 3458764513820540928
  · rw [if_pos e] at h
    simp only [bv, Value.agg.injEq, Array.mk.injEq, List.cons.injEq, Value.bool.injEq, Value.int.injEq, true_and, and_true] at h
    exact ⟨fun g => absurd (h.1.trans g) (by decide), fun g => absurd e g⟩
  · rw [if_neg e] at h
    simp only [bv, Value.agg.injEq, Array.mk.injEq, List.cons.injEq, Value.bool.injEq, Value.int.injEq, true_and, and_true] at h
    exact ⟨fun _ => ⟨e, h.2.symm⟩, fun _ => ⟨h.1.symm, h.2.symm⟩⟩
theorem bv_form3 (v : Option Int) : ∃ bi bc, bv v = .agg #[.bool bi, .int .i64 bc] := by cases v <;> exact ⟨_, _, rfl⟩
set_option maxHeartbeats 6000000 in
theorem zoneOrders_walk (w : World) (A0 : Option Addr) (n0 c0 : Nat) (L0 : List Con) (i0 : ConIn w A0 n0 c0 L0) (x1 : Int) (b1 : I64 x1) :
    Calls Try.prog 4 #[.slice A0 n0 c0, .int .i64 x1] w (True_ w) := by
  have I0 := Lib.hid i0
  have B1 := Lib.hid b1
  have HLS := Lib.hid (show (smallL L0).length ≤ 5900000000000 by have : (smallL L0).length ≤ L0.length := List.length_filter_le _ _; have := i0.len; have := i0.reach; omega)
  have HSR := Lib.hid (small_right L0)
  clear i0 b1
  go_enter Try.func4, Try.ntmps4
  have S0 := Lib.hid (St.start w)
  go_wp2_with fail
  go_at_call 19
  refine (small_any _ A0 n0 c0 L0 (lw_conb I0.out S0.out.1)).mono ?_
  rintro e W1 ⟨As, ns, cs, rfl, hLs, hcs, hAs, hB⟩
  have HAs := Lib.hid hAs
  have HNs := Lib.hid hLs
  have HCs := Lib.hid hcs
  have S1 := Lib.hid (show St w W1 [] from (S0.out.up hB))
  clear hB S0 hAs hLs hcs
  have hns : ns ≤ 5900000000000 := by have := HLS.out; have := HNs.out; omega
  obtain ⟨L, hLL⟩ : ∃ L, L = smallL L0 := ⟨_, rfl⟩
  rw [← hLL] at HAs HNs HSR
  have HTL := Lib.hid hLL
  clear hLL
  obtain ⟨k, hk, hk1⟩ : ∃ k : Nat, x1 % ((ns : Int) + 1) = k ∧ k ≤ ns := ⟨(x1 % ((ns : Int) + 1)).toNat, by have := Int.emod_nonneg x1 (show (ns : Int) + 1 ≠ 0 by omega); omega, by have := Int.emod_lt_of_pos x1 (show (0 : Int) < (ns : Int) + 1 by omega); omega⟩
  have HK := Lib.hid hk
  have HK1 := Lib.hid hk1
  clear hk hk1
  obtain ⟨z1, hz1⟩ : ∃ z, z = withZ (some topT) L := ⟨_, rfl⟩
  obtain ⟨z2, hz2⟩ : ∃ z, z = withZ (some topT) L.reverse := ⟨_, rfl⟩
  obtain ⟨z3, hz3⟩ : ∃ z, z = closeZ L := ⟨_, rfl⟩
  obtain ⟨z4, hz4⟩ : ∃ z, z = withZ (some topT) (L.drop k) := ⟨_, rfl⟩
  obtain ⟨z5, hz5⟩ : ∃ z, z = withZ z4 (L.take k) := ⟨_, rfl⟩
  have HS12 := Lib.hid (show sameZB z1 z2 = true by rw [hz1, hz2]; exact same_perm HSR.out fun x => List.mem_reverse.symm)
  have HS13 := Lib.hid (show sameZB z1 z3 = true by rw [hz1, hz3]; exact same_close HSR.out)
  have HS15 := Lib.hid (show sameZB z1 z5 = true by rw [hz1, hz5, hz4, ← withZ_append]; exact same_perm HSR.out fun x => by rw [List.mem_append]; constructor; (intro h; rw [← List.take_append_drop k L] at h; rcases List.mem_append.mp h with h | h; exact .inr h; exact .inl h); (rintro (h | h); exact List.mem_of_mem_drop h; exact List.mem_of_mem_take h))
  have HCN := Lib.hid (show consZ z3 = consZ (closeZ L) by rw [hz3])
  have HOK := Lib.hid (show OkZ (closeZ L) from okZ_close topT L okT_top HSR.out.right)
  have HZ1 := Lib.hid hz1
  have HZ2 := Lib.hid hz2
  have HZ3 := Lib.hid hz3
  have HZ4 := Lib.hid hz4
  have HZ5 := Lib.hid hz5
  have HTG := Lib.hid (show ∀ M, z1 = some M → Tight M from fun M hM => Cl.tight (L := L0) (small_cl (by rw [← HTL.out, ← hz1]; exact hM)))
  clear hz1 hz2 hz3 hz4 hz5
  go_wp2_with fail
  go_at_call 9
  refine (New_law _).mono ?_
  rintro e W2 ⟨e1, rfl, hg, hz, hB⟩
  have S2 := Lib.hid (show St w W2 [(e1, some topT)] from (S1.out.up hB).add hz)
  have THAs := Lib.hid (HAs.out.below hB)
  clear HAs
  have HAs := THAs
  clear THAs
  clear hB S1 hz hg
  go_wp2_with fail
  go_at_call 11
  refine (cons_law _ As ns cs L HNs.out (by have := HNs.out; have := HK1.out; omega) HAs.out).mono ?_
  rintro e W3 ⟨Al2, nl2, cl2, rfl, hL2, hc2, hA2, hB⟩
  have HA2 := Lib.hid hA2
  have HL2 := Lib.hid hL2
  have S3 := Lib.hid (show St w W3 [(e1, some topT)] from (S2.out.up hB))
  have THAs := Lib.hid (HAs.out.below hB)
  clear HAs
  have HAs := THAs
  clear THAs
  clear hB S2 hA2 hL2 hc2
  go_wp2_with fail
  go_at_call 10
  refine (With_law _ e1 (some topT) Al2 nl2 cl2 L (S3.out.2 (e1, some topT) (by simp)) HL2.out (by have h1 := HL2.out; have h2 := HNs.out; first | omega | (simp only [List.length_reverse, List.length_take, List.length_drop] at h1; omega)) HA2.out (smallR_perm HSR.out fun x h => h)).mono ?_
  rintro e W4 ⟨g1, rfl, hz, hB⟩
  rw [← HZ1.out] at hz
  have S4 := Lib.hid (show St w W4 [(g1, z1), (e1, some topT)] from (S3.out.up hB).add hz)
  have THAs := Lib.hid (HAs.out.below hB)
  clear HAs
  have HAs := THAs
  clear THAs
  clear hB S3 hz HA2 HL2
  go_wp2_with fail
  go_at_call 9
  refine (New_law _).mono ?_
  rintro e W5 ⟨e2, rfl, hg, hz, hB⟩
  have S5 := Lib.hid (show St w W5 [(e2, some topT), (g1, z1), (e1, some topT)] from (S4.out.up hB).add hz)
  have THAs := Lib.hid (HAs.out.below hB)
  clear HAs
  have HAs := THAs
  clear THAs
  clear hB S4 hz hg
  go_wp2_with fail
  go_at_call 20
  refine (turned_any _ As ns cs L HNs.out (by omega) HAs.out).mono ?_
  rintro e W6 ⟨At, nt, ct, rfl, hLt, hct, hAt, hB⟩
  have HAt := Lib.hid hAt
  have HNt := Lib.hid hLt
  have S6 := Lib.hid (show St w W6 [(e2, some topT), (g1, z1), (e1, some topT)] from (S5.out.up hB))
  have THAs := Lib.hid (HAs.out.below hB)
  clear HAs
  have HAs := THAs
  clear THAs
  clear hB S5 hAt hLt hct
  go_wp2_with fail
  go_at_call 11
  refine (cons_law _ At nt ct L.reverse HNt.out (by have := HNt.out; rw [List.length_reverse] at this; have := HNs.out; omega) HAt.out).mono ?_
  rintro e W7 ⟨Al6, nl6, cl6, rfl, hL6, hc6, hA6, hB⟩
  have HA6 := Lib.hid hA6
  have HL6 := Lib.hid hL6
  have S7 := Lib.hid (show St w W7 [(e2, some topT), (g1, z1), (e1, some topT)] from (S6.out.up hB))
  have THAs := Lib.hid (HAs.out.below hB)
  clear HAs
  have HAs := THAs
  clear THAs
  clear hB S6 hA6 hL6 hc6 HAt HNt
  go_wp2_with fail
  go_at_call 10
  refine (With_law _ e2 (some topT) Al6 nl6 cl6 L.reverse (S7.out.2 (e2, some topT) (by simp)) HL6.out (by have h1 := HL6.out; have h2 := HNs.out; first | omega | (simp only [List.length_reverse, List.length_take, List.length_drop] at h1; omega)) HA6.out (smallR_perm HSR.out fun x h => List.mem_reverse.mp h)).mono ?_
  rintro e W8 ⟨g2, rfl, hz, hB⟩
  rw [← HZ2.out] at hz
  have S8 := Lib.hid (show St w W8 [(g2, z2), (e2, some topT), (g1, z1), (e1, some topT)] from (S7.out.up hB).add hz)
  have THAs := Lib.hid (HAs.out.below hB)
  clear HAs
  have HAs := THAs
  clear THAs
  clear hB S7 hz HA6 HL6
  go_wp2_with fail
  go_at_call 11
  refine (cons_law _ As ns cs L HNs.out (by have := HNs.out; have := HK1.out; omega) HAs.out).mono ?_
  rintro e W9 ⟨Al8, nl8, cl8, rfl, hL8, hc8, hA8, hB⟩
  have HA8 := Lib.hid hA8
  have HL8 := Lib.hid hL8
  have S9 := Lib.hid (show St w W9 [(g2, z2), (e2, some topT), (g1, z1), (e1, some topT)] from (S8.out.up hB))
  have THAs := Lib.hid (HAs.out.below hB)
  clear HAs
  have HAs := THAs
  clear THAs
  clear hB S8 hA8 hL8 hc8
  go_wp2_with fail
  go_at_call 21
  refine (Close_law _ Al8 nl8 cl8 L HL8.out (by have := HL8.out; have := HNs.out; omega) HA8.out (smallR_perm HSR.out fun x h => h)).mono ?_
  rintro e W10 ⟨g3, rfl, hz, hB⟩
  rw [← HZ3.out] at hz
  have S10 := Lib.hid (show St w W10 [(g3, z3), (g2, z2), (e2, some topT), (g1, z1), (e1, some topT)] from (S9.out.up hB).add hz)
  have THAs := Lib.hid (HAs.out.below hB)
  clear HAs
  have HAs := THAs
  clear THAs
  clear hB S9 hz HA8 HL8
  go_wp2_with fail
  go_at_call 22
  refine (place_any _ ((ns : Int) + 1) _ B1.out (by omega) (by omega)).mono ?_
  rintro e w' ⟨rfl, rfl⟩
  rw [HK.out]
  go_upto_region 6 with (fail)
  obtain ⟨A1, hA1⟩ : ∃ A1, A1 = cutA As cs k := ⟨_, rfl⟩
  obtain ⟨m1, hm1⟩ : ∃ m, m = ns - k := ⟨_, rfl⟩
  obtain ⟨d1, hd1⟩ : ∃ d, d = cs - k := ⟨_, rfl⟩
  have HA1 := Lib.hid hA1
  have HM1 := Lib.hid hm1
  have HD1 := Lib.hid hd1
  have HSs := Lib.hid (S10.out.up (below_drewN' (Below.refl _ _) 1))
  have HAss := Lib.hid (HAs.out.below (below_drewN' (Below.refl W10.heap.size W10) 1))
  have hk0 : (0 : Int) ≤ k := by omega
  have hkn : (k : Int) ≤ ns := by have := HK1.out; omega
  have hkn2 : k ≤ ns := HK1.out
  have hkc : (k : Int) ≤ cs := by have := HK1.out; have := HCs.out; omega
  have hkc2 : k ≤ cs := by have := HK1.out; have := HCs.out; omega
  unfold cutA at hA1
  refine wp_region_held_drew (S := fun _ => True) (by kernel_rfl) trivial (fun hHeld => ?_)
  refine wpAnyH_take (i := 1) (oi := { dst := some 50, op := Op.move (Operand.tmp 5), type := 23, pos := "law.go:321", after := #[], guard := none }) (v := .slice As ns cs) rfl (by kernel_rfl) (by kernel_rfl) (by kernel_rfl) (fun _ _ _ h => h) (Or.inl ⟨by rfl, ?_⟩) (by assumption) ?_
  · intro w hSw
    (try dsimp only at hSw)
    go_simp
    all_goals (first | assumption | rfl | (simp; done) | (simp only [*]; done) | omega | (simp; omega))
  try simp only [Act.put, List.setIfInBounds_toArray, List.set_cons_zero, List.set_cons_succ]
  refine wpAnyH_take (i := 2) (oi := { dst := some 51, op := Op.move (Operand.tmp 12), type := 3, pos := "law.go:321", after := #[], guard := none }) (v := .int .i64 k) rfl (by kernel_rfl) (by kernel_rfl) (by kernel_rfl) (fun _ _ _ h => h) (Or.inl ⟨by rfl, ?_⟩) (by assumption) ?_
  · intro w hSw
    (try dsimp only at hSw)
    go_simp
    all_goals (first | assumption | rfl | (simp; done) | (simp only [*]; done) | omega | (simp; omega))
  try simp only [Act.put, List.setIfInBounds_toArray, List.set_cons_zero, List.set_cons_succ]
  refine wpAnyH_take (i := 3) (oi := { dst := some 52, op := Op.slice 23 (Operand.tmp 50) (some (Operand.tmp 51)) none none, type := 23, pos := "law.go:321", after := #[{ on := 1, ground := Ground.data }, { on := 2, ground := Ground.data }], guard := none }) (v := .slice A1 m1 d1) rfl (by kernel_rfl) (by kernel_rfl) (by kernel_rfl) (fun _ _ _ h => h) (Or.inl ⟨by rfl, ?_⟩) (by assumption) ?_
  · intro w hSw
    (try dsimp only at hSw)
    go_simp
    all_goals (first | assumption | rfl | (simp; done) | (simp only [*]; done) | omega | (simp; omega))
  try simp only [Act.put, List.setIfInBounds_toArray, List.set_cons_zero, List.set_cons_succ]
  clear hA1 hm1 hd1
  refine wpAnyH_ready (rs := [0]) (by kernel_rfl) (by simp) ?_
  refine AllReadyH.cons (o := { dst := some 49, op := Op.call { callee := Callee.value (Operand.func 9), args := #[], argTypes := #[] }, type := 25, pos := "law.go:321", after := #[], guard := none }) rfl (fun K hK => ?_) ?_
  rotate_left
  · exact AllReadyH.nil
  go_simp
  go_at_call 9
  refine (New_law _).mono ?_
  rintro e Wt ⟨e4, rfl, hg, hz, hB⟩
  have HE4 := Lib.hid hz
  have HSt := Lib.hid (HSs.out.up hB)
  have HAst := Lib.hid (HAss.out.below hB)
  clear hg hz hB
  refine hK.out _ _ ?_ (fun hHeld => ?_)
  · (try dsimp only)
    try exact trivial
  clear hK K
  try simp only [Act.put, List.setIfInBounds_toArray, List.set_cons_zero, List.set_cons_succ]
  refine wpAnyH_ready (rs := [4]) (by kernel_rfl) (by simp) ?_
  refine AllReadyH.cons (o := { dst := some 53, op := Op.call { callee := Callee.value (Operand.func 11), args := #[Operand.tmp 52], argTypes := #[23] }, type := 30, pos := "law.go:321", after := #[{ on := 3, ground := Ground.data }, { on := 0, ground := Ground.chain }], guard := none }) rfl (fun K hK => ?_) ?_
  rotate_left
  · exact AllReadyH.nil
  go_simp
  go_at_call 11
  refine (cons_law _ A1 m1 d1 (L.drop k) (by rw [List.length_drop, HNs.out, HM1.out]) (by have := HM1.out; omega) (by rw [HA1.out]; exact consAt_drop HAst.out (by rw [HNs.out]; exact HCs.out) (by rw [HNs.out]; exact HK1.out))).mono ?_
  rintro e Wu ⟨Al, nl, cl, rfl, hLl, hcl, hAl, hB⟩
  have HAl := Lib.hid hAl
  have HLl := Lib.hid hLl
  have HE4u := Lib.hid (HE4.out.up hB)
  have HSu := Lib.hid (HSt.out.up hB)
  have HAsu := Lib.hid (HAst.out.below hB)
  clear hLl hcl hAl hB HE4
  refine hK.out _ _ ?_ (fun hHeld => ?_)
  · (try dsimp only)
    try exact trivial
  clear hK K
  try simp only [Act.put, List.setIfInBounds_toArray, List.set_cons_zero, List.set_cons_succ]
  refine wpAnyH_ready (rs := [5]) (by kernel_rfl) (by simp) ?_
  refine AllReadyH.cons (o := { dst := some 54, op := Op.call { callee := Callee.value (Operand.func 10), args := #[Operand.tmp 49, Operand.tmp 53], argTypes := #[25, 30] }, type := 27, pos := "law.go:321", after := #[{ on := 0, ground := Ground.data }, { on := 4, ground := Ground.data }, { on := 4, ground := Ground.chain }], guard := none }) rfl (fun K hK => ?_) ?_
  rotate_left
  · exact AllReadyH.nil
  go_simp
  go_at_call 10
  refine (With_law _ e4 (some topT) Al nl cl (L.drop k) HE4u.out HLl.out (by have := HLl.out; rw [List.length_drop] at this; have := HNs.out; omega) HAl.out (smallR_perm HSR.out fun x h => List.mem_of_mem_drop h)).mono ?_
  rintro e Wv ⟨g4, rfl, hz, hB⟩
  rw [← HZ4.out] at hz
  have HG4 := Lib.hid hz
  have HSv := Lib.hid (HSu.out.up hB)
  have HAsv := Lib.hid (HAsu.out.below hB)
  clear hz hB HE4u HAl HLl
  refine hK.out _ _ ?_ (fun hHeld => ?_)
  · (try dsimp only)
    try exact trivial
  clear hK K
  try simp only [Act.put, List.setIfInBounds_toArray, List.set_cons_zero, List.set_cons_succ]
  refine wpAnyH_take (i := 6) (oi := { dst := some 48, op := Op.move (Operand.tmp 54), type := 27, pos := "law.go:321", after := #[{ on := 5, ground := Ground.data }], guard := none }) (v := .tuple #[.pointer (some ⟨g4, 0, none⟩), .int .i64 0]) rfl (by kernel_rfl) (by kernel_rfl) (by kernel_rfl) (fun _ _ _ h => h) (Or.inl ⟨by rfl, ?_⟩) (by assumption) ?_
  · intro w hSw
    (try dsimp only at hSw)
    go_simp
    all_goals (first | assumption | rfl | (simp; done) | (simp only [*]; done) | omega | (simp; omega))
  try simp only [Act.put, List.setIfInBounds_toArray, List.set_cons_zero, List.set_cons_succ]
  refine wpAnyH_take (i := 7) (oi := { dst := some 55, op := Op.extract (Operand.tmp 48) 0, type := 25, pos := "law.go:321", after := #[{ on := 6, ground := Ground.data }], guard := none }) (v := .pointer (some ⟨g4, 0, none⟩)) rfl (by kernel_rfl) (by kernel_rfl) (by kernel_rfl) (fun _ _ _ h => h) (Or.inl ⟨by rfl, ?_⟩) (by assumption) ?_
  · intro w hSw
    (try dsimp only at hSw)
    go_simp
    all_goals (first | assumption | rfl | (simp; done) | (simp only [*]; done) | omega | (simp; omega))
  try simp only [Act.put, List.setIfInBounds_toArray, List.set_cons_zero, List.set_cons_succ]
  refine wpAnyH_take (i := 8) (oi := { dst := some 56, op := Op.extract (Operand.tmp 48) 1, type := 26, pos := "law.go:321", after := #[{ on := 6, ground := Ground.data }, { on := 9, ground := Ground.gcOnly Departure.lateStores }], guard := none }) (v := .int .i64 0) rfl (by kernel_rfl) (by kernel_rfl) (by kernel_rfl) (fun _ _ _ h => h) (Or.inl ⟨by rfl, ?_⟩) (by assumption) ?_
  · intro w hSw
    (try dsimp only at hSw)
    go_simp
    all_goals (first | assumption | rfl | (simp; done) | (simp only [*]; done) | omega | (simp; omega))
  try simp only [Act.put, List.setIfInBounds_toArray, List.set_cons_zero, List.set_cons_succ]
  refine wpAnyH_take (i := 9) (oi := { dst := some 13, op := Op.assign (Operand.tmp 55), type := 25, pos := "law.go:321", after := #[{ on := 7, ground := Ground.data }, { on := 5, ground := Ground.chain }, { on := 0, ground := Ground.phase }, { on := 1, ground := Ground.phase }, { on := 2, ground := Ground.phase }, { on := 3, ground := Ground.phase }, { on := 4, ground := Ground.phase }, { on := 5, ground := Ground.phase }, { on := 6, ground := Ground.phase }, { on := 7, ground := Ground.phase }, { on := 8, ground := Ground.textOnly Departure.lateStores }], guard := none }) (v := .pointer (some ⟨g4, 0, none⟩)) rfl (by kernel_rfl) (by kernel_rfl) (by kernel_rfl) (fun _ _ _ h => h) (Or.inl ⟨by rfl, ?_⟩) (by assumption) ?_
  · intro w hSw
    (try dsimp only at hSw)
    go_simp
    all_goals (first | assumption | rfl | (simp; done) | (simp only [*]; done) | omega | (simp; omega))
  try simp only [Act.put, List.setIfInBounds_toArray, List.set_cons_zero, List.set_cons_succ]
  refine wpAnyH_take (i := 10) (oi := { dst := some 14, op := Op.assign (Operand.tmp 56), type := 26, pos := "law.go:321", after := #[{ on := 8, ground := Ground.data }, { on := 9, ground := Ground.chain }, { on := 0, ground := Ground.phase }, { on := 1, ground := Ground.phase }, { on := 2, ground := Ground.phase }, { on := 3, ground := Ground.phase }, { on := 4, ground := Ground.phase }, { on := 5, ground := Ground.phase }, { on := 6, ground := Ground.phase }, { on := 7, ground := Ground.phase }, { on := 8, ground := Ground.phase }, { on := 9, ground := Ground.phase }], guard := none }) (v := .int .i64 0) rfl (by kernel_rfl) (by kernel_rfl) (by kernel_rfl) (fun _ _ _ h => h) (Or.inl ⟨by rfl, ?_⟩) (by assumption) ?_
  · intro w hSw
    (try dsimp only at hSw)
    go_simp
    all_goals (first | assumption | rfl | (simp; done) | (simp only [*]; done) | omega | (simp; omega))
  try simp only [Act.put, List.setIfInBounds_toArray, List.set_cons_zero, List.set_cons_succ]
  refine wpAnyH_done (by kernel_rfl) ?_ _
  have S11 := Lib.hid (show St w Wv [(g4, z4), (g3, z3), (g2, z2), (e2, some topT), (g1, z1), (e1, some topT)] from HSv.out.add HG4.out)
  have HAsN := Lib.hid HAsv.out
  clear HSs HAss HSt HAst HSu HAsu HSv HAsv HG4 HAs S10 HA1 HM1 HD1
  have HAs := HAsN
  clear HAsN
  have HOK3 := Lib.hid (show OkZ z3 by rw [HZ3.out]; exact HOK.out)
  have HVD := Lib.hid (same_void HS13.out)
  go_wp2_with fail
  go_at_call 11
  refine (cons_law _ As k cs (L.take k) (by rw [List.length_take, HNs.out]; have := HK1.out; omega) (by have := HK1.out; omega) (consAt_take HAs.out)).mono ?_
  rintro e W12 ⟨Al, nl, cl, rfl, hLl, hcl, hAl, hB⟩
  have HAl := Lib.hid hAl
  have HLl := Lib.hid hLl
  have S12 := Lib.hid (show St w W12 [(g4, z4), (g3, z3), (g2, z2), (e2, some topT), (g1, z1), (e1, some topT)] from (S11.out.up hB))
  have THAs := Lib.hid (HAs.out.below hB)
  clear HAs
  have HAs := THAs
  clear THAs
  clear hB S11 hLl hcl hAl
  go_wp2_with fail
  go_at_call 10
  refine (With_law _ g4 z4 Al nl cl (L.take k) (S12.out.2 (g4, z4) (by simp)) HLl.out (by have := HLl.out; rw [List.length_take] at this; have := HNs.out; omega) HAl.out (smallR_perm HSR.out fun x h => List.mem_of_mem_take h)).mono ?_
  rintro e W13 ⟨g5, rfl, hz, hB⟩
  rw [← HZ5.out] at hz
  have S13 := Lib.hid (show St w W13 [(g5, z5), (g4, z4), (g3, z3), (g2, z2), (e2, some topT), (g1, z1), (e1, some topT)] from (S12.out.up hB).add hz)
  have THAs := Lib.hid (HAs.out.below hB)
  clear HAs
  have HAs := THAs
  clear THAs
  clear hB S12 hz HAl HLl
  cases hb : voidB z1
  · have HBV := Lib.hid hb
    clear hb
    go_wp2_with fail
    go_at_call 23
    refine (Same_law _ g1 g2 z1 z2 (S13.out.2 (g1, z1) (by simp)) (S13.out.2 (g2, z2) (by simp))).mono ?_
    rintro e W14 ⟨rfl, hB⟩
    rw [HS12.out]
    have S14 := Lib.hid (show St w W14 [(g5, z5), (g4, z4), (g3, z3), (g2, z2), (e2, some topT), (g1, z1), (e1, some topT)] from (S13.out.up hB))
    have THAs := Lib.hid (HAs.out.below hB)
    clear HAs
    have HAs := THAs
    clear THAs
    clear hB S13
    go_wp2_with fail
    go_at_call 23
    refine (Same_law _ g1 g3 z1 z3 (S14.out.2 (g1, z1) (by simp)) (S14.out.2 (g3, z3) (by simp))).mono ?_
    rintro e W15 ⟨rfl, hB⟩
    rw [HS13.out]
    have S15 := Lib.hid (show St w W15 [(g5, z5), (g4, z4), (g3, z3), (g2, z2), (e2, some topT), (g1, z1), (e1, some topT)] from (S14.out.up hB))
    have THAs := Lib.hid (HAs.out.below hB)
    clear HAs
    have HAs := THAs
    clear THAs
    clear hB S14
    go_wp2_with fail
    go_at_call 23
    refine (Same_law _ g1 g5 z1 z5 (S15.out.2 (g1, z1) (by simp)) (S15.out.2 (g5, z5) (by simp))).mono ?_
    rintro e W16 ⟨rfl, hB⟩
    rw [HS15.out]
    have S16 := Lib.hid (show St w W16 [(g5, z5), (g4, z4), (g3, z3), (g2, z2), (e2, some topT), (g1, z1), (e1, some topT)] from (S15.out.up hB))
    have THAs := Lib.hid (HAs.out.below hB)
    clear HAs
    have HAs := THAs
    clear THAs
    clear hB S15
    go_wp2_with fail
    go_at_call 24
    refine (Empty_any _ g1 z1 (S16.out.2 (g1, z1) (by simp))).mono ?_
    rintro e W17 ⟨rfl, rfl⟩
    rw [HBV.out]
    have S17 := S16
    clear S16
    go_wp2_with fail
    go_at_call 24
    refine (Empty_any _ g3 z3 (S17.out.2 (g3, z3) (by simp))).mono ?_
    rintro e W18 ⟨rfl, rfl⟩
    rw [← HVD.out, HBV.out]
    have S18 := S17
    clear S17
    go_wp2_with fail
    go_at_call 26
    refine (Cons_law _ g3 z3 (S18.out.2 (g3, z3) (by simp))).mono ?_
    rintro e W19 ⟨A3, n3, c3, rfl, hL3, hc3, hA3, hB⟩
    have HA3 := Lib.hid hA3
    have HL3 := Lib.hid hL3
    have S19 := Lib.hid (show St w W19 [(g5, z5), (g4, z4), (g3, z3), (g2, z2), (e2, some topT), (g1, z1), (e1, some topT)] from (S18.out.up hB))
    have THAs := Lib.hid (HAs.out.below hB)
    clear HAs
    have HAs := THAs
    clear THAs
    clear hB S18 hL3 hc3 hA3
    have HRC := Lib.hid (fun W (h : ConsAt W As L) => refClose_any W As ns cs L HNs.out (by omega) h (smallR_perm HSR.out fun x h => h))
    rw [← HZ3.out] at HRC
    go_wp2_with fail
    go_at_call 28
    refine (HRC.out _ HAs.out).mono ?_
    rintro e W20 ⟨rfl, hB⟩
    have S20 := Lib.hid (show St w W20 [(g5, z5), (g4, z4), (g3, z3), (g2, z2), (e2, some topT), (g1, z1), (e1, some topT)] from (S19.out.up hB))
    have THAs := Lib.hid (HAs.out.below hB)
    clear HAs
    have HAs := THAs
    clear THAs
    have THA3 := Lib.hid (HA3.out.below hB)
    clear HA3
    have HA3 := THA3
    clear THA3
    clear hB S19
    have HRD := Lib.hid (fun W => refCons_any W z3 HOK3.out)
    generalize rv z3 = rz at *
    go_wp2_with fail
    go_at_call 27
    refine (HRD.out _).mono ?_
    rintro e W21 hOw
    obtain ⟨A4, n4, c4, rfl, hL4, hc4, hA4, hB⟩ := Owned.listed hOw
    have HA4 := Lib.hid hA4
    have HL4 := Lib.hid hL4
    have S21 := Lib.hid (show St w W21 [(g5, z5), (g4, z4), (g3, z3), (g2, z2), (e2, some topT), (g1, z1), (e1, some topT)] from (S20.out.up hB))
    have THAs := Lib.hid (HAs.out.below hB)
    clear HAs
    have HAs := THAs
    clear THAs
    have THA3 := Lib.hid (HA3.out.below hB)
    clear HA3
    have HA3 := THA3
    clear THA3
    clear hB S20 hL4 hc4 hA4
    have hn34 : n4 = n3 := by rw [← HL3.out, ← HL4.out]
    subst hn34
    go_wp2_with fail
    go_at_call 25
    refine (same_yes _ A3 A4 n4 c3 c4 (consZ z3) HL3.out (by have := HL3.out; have : (consZ z3).length ≤ 3600 := consZ_len z3; omega) HA3.out HA4.out).mono ?_
    rintro e W22 ⟨rfl, hB⟩
    have S22 := Lib.hid (show St w W22 [(g5, z5), (g4, z4), (g3, z3), (g2, z2), (e2, some topT), (g1, z1), (e1, some topT)] from (S21.out.up hB))
    have THAs := Lib.hid (HAs.out.below hB)
    clear HAs
    have HAs := THAs
    clear THAs
    have THA3 := Lib.hid (HA3.out.below hB)
    clear HA3
    have HA3 := THA3
    clear THA3
    have THA4 := Lib.hid (HA4.out.below hB)
    clear HA4
    have HA4 := THA4
    clear THA4
    clear hB S21
    go_wp2_with fail
    go_at_call 24
    refine (Empty_any _ g1 z1 (S22.out.2 (g1, z1) (by simp))).mono ?_
    rintro e W23 ⟨rfl, rfl⟩
    rw [HBV.out]
    have S23 := S22
    clear S22
    obtain ⟨M, rfl⟩ : ∃ M, z1 = some M := by have := HBV.out; cases z1 with | none => cases this | some M => exact ⟨M, rfl⟩
    have HTM := Lib.hid (HTG.out M rfl)
    obtain ⟨r, hr, hr6⟩ := lw_mod x1
    have HR := Lib.hid hr
    have HR6 := Lib.hid hr6
    have hr0 : (0 : Int) ≤ r := by omega
    have hr1 : (r : Int) < 60 := by omega
    clear hr hr6
    have HZ1M := Lib.hid (show ZoneAt W22 g1 (some M) from (S23.out.2 (g1, some M) (by simp)))
    have HSW := Lib.hid S23.out.1
    go_wp2_with fail
    go_loopw [15] (fun i wr => ∃ k : Nat, k ≤ 60 ∧ i = .int .i64 k ∧ Below W22.heap.size W22 wr) (fun i _ => (60 - intOf i).toNat)
    case atStart => exact ⟨0, by omega, rfl, Below.refl _ _⟩
    case round =>
      obtain ⟨p, hp, rfl, hB⟩ := hrel
      have hp0 : (0 : Int) ≤ p := by omega
      by_cases hlt : p < 60
      · have hp1 : (p : Int) < 60 := by omega
        have HPT := Lib.hid hlt
        have HB := Lib.hid hB
        clear hB hlt
        have HBD := Lib.hid (fun W (hW : Below W22.heap.size W22 W) (a b : Nat) (ha : a < 60) (hb : b < 60) => Bound_at W g1 a b M (HZ1M.out.up hW) ha hb)
        go_wp2_with fail
        go_at_call 22
        refine (place_any _ 60 _ B1.out (by omega) (by omega)).mono ?_
        rintro e w' ⟨rfl, rfl⟩
        rw [HR.out]
        go_wp2_with fail
        go_at_call 18
        refine (HBD.out _ HB.out p r HPT.out HR6.out).mono ?_
        rintro e V1 ⟨rfl, hW1⟩
        obtain ⟨ai, ac, hav⟩ := bv_form3 (bnd (M p r))
        rw [hav]
        have HAV := Lib.hid (bv_inv hav)
        have HB1 := Lib.hid (HB.out.trans (hW1.mono HB.out.size))
        clear hW1 hav HB
        go_upto_region 18 with (fail)
        have hab := Blk.new V1 38 #[.bool ai, .int .i64 ac]
        have HB2 := Lib.hid (HB1.out.trans ((below_box V1 (.cells #[.bool ai, .int .i64 ac] 38)).mono HB1.out.size))
        generalize V1.alloc (.cells #[.bool ai, .int .i64 ac] 38) = V2 at *
        generalize V1.heap.size = ga at *
        have HAB := Lib.hid hab
        clear hab HB1
        go_wp2_with fail
        go_loopw [17] (fun i wr => ∃ k : Nat, k ≤ 60 ∧ i = .int .i64 k ∧ Below V2.heap.size V2 wr) (fun i _ => (60 - intOf i).toNat)
        case atStart => exact ⟨0, by omega, rfl, Below.refl _ _⟩
        case round =>
          obtain ⟨q, hq, rfl, hBi⟩ := hrel
          have hq0 : (0 : Int) ≤ q := by omega
          by_cases hqt : q < 60
          · have hq1 : (q : Int) < 60 := by omega
            have HQT := Lib.hid hqt
            have HBi := Lib.hid hBi
            have HBj := Lib.hid (HB2.out.trans (hBi.mono HB2.out.size))
            clear hBi hqt
            go_wp2_with fail
            go_at_call 22
            refine (place_any _ 60 _ B1.out (by omega) (by omega)).mono ?_
            rintro e w' ⟨rfl, rfl⟩
            rw [HR.out]
            go_wp2_with fail
            go_at_call 18
            refine (HBD.out _ HBj.out r q HR6.out HQT.out).mono ?_
            rintro e V3 ⟨rfl, hW3⟩
            obtain ⟨bi, bc, hbv⟩ := bv_form3 (bnd (M r q))
            rw [hbv]
            have HBVV := Lib.hid (bv_inv hbv)
            have HB3 := Lib.hid (HBj.out.trans (hW3.mono HBj.out.size))
            have HI3 := Lib.hid (HBi.out.trans (hW3.mono HBi.out.size))
            clear hW3 hbv HBj HBi
            go_upto_region 22 with (fail)
            have hbb := Blk.new V3 38 #[.bool bi, .int .i64 bc]
            have hbox := below_box V3 (.cells #[.bool bi, .int .i64 bc] 38)
            have HB4 := Lib.hid (HB3.out.trans (hbox.mono HB3.out.size))
            have HI4 := Lib.hid (HI3.out.trans (hbox.mono HI3.out.size))
            generalize V3.alloc (.cells #[.bool bi, .int .i64 bc] 38) = V4 at *
            generalize V3.heap.size = gb at *
            have HBB := Lib.hid hbb
            clear hbb hbox HB3 HI3
            go_wp2_with fail
            go_at_call 18
            refine (HBD.out _ HB4.out p q HPT.out HQT.out).mono ?_
            rintro e V5 ⟨rfl, hW5⟩
            obtain ⟨ci, cc, hcv⟩ := bv_form3 (bnd (M p q))
            rw [hcv]
            have HCV := Lib.hid (bv_inv hcv)
            have HI5 := Lib.hid (HI4.out.trans (hW5.mono HI4.out.size))
            have HBB5 := Lib.hid (HBB.out.below hW5 HBB.out.lt)
            clear hW5 hcv HI4 HBB HB4
            go_upto_region 23 with (fail)
            have hcb := Blk.new V5 38 #[.bool ci, .int .i64 cc]
            have hbox := below_box V5 (.cells #[.bool ci, .int .i64 cc] 38)
            have HI6 := Lib.hid (HI5.out.trans (hbox.mono HI5.out.size))
            have hbb6 := HBB5.out.below hbox HBB5.out.lt
            generalize V5.alloc (.cells #[.bool ci, .int .i64 cc] 38) = V6 at *
            generalize V5.heap.size = gc at *
            have hab6 := HAB.out.below HI6.out HAB.out.lt
            have a0 : V6.cell? ⟨ga, 0, none⟩ = some (.bool ai) := hab6.cell 0
            have a1 : V6.cell? ⟨ga, 1, none⟩ = some (.int .i64 ac) := hab6.cell 1
            have b0 : V6.cell? ⟨gb, 0, none⟩ = some (.bool bi) := hbb6.cell 0
            have b1 : V6.cell? ⟨gb, 1, none⟩ = some (.int .i64 bc) := hbb6.cell 1
            have c0 : V6.cell? ⟨gc, 0, none⟩ = some (.bool ci) := hcb.cell 0
            have c1 : V6.cell? ⟨gc, 1, none⟩ = some (.int .i64 cc) := hcb.cell 1
            clear hab6 hbb6 hcb hbox HBB5 HI5
            have hthree : ai = false ∨ (ai = true ∧ bi = false) ∨ (ai = true ∧ bi = true ∧ ci = true ∧ decide (ac + bc < cc) = false ∧ -1000000000000000 ≤ ac ∧ ac ≤ 1000000000000000 ∧ -1000000000000000 ≤ bc ∧ bc ≤ 1000000000000000) := by
              cases hai : ai
              · exact .inl rfl
              · cases hbi : bi
                · exact .inr (.inl ⟨rfl, rfl⟩)
                · obtain ⟨u1, u2⟩ := HAV.out.1 hai
                  obtain ⟨v1, v2⟩ := HBVV.out.1 hbi
                  obtain ⟨t1, t2⟩ := tri_bnd HTM.out HPT.out HR6.out HQT.out u1 v1
                  obtain ⟨s1, s2⟩ := HCV.out.2 t1
                  have d1 := HTM.out.bd p r HPT.out HR6.out u1
                  have d2 := HTM.out.bd r q HR6.out HQT.out v1
                  exact .inr (.inr ⟨rfl, rfl, s1, decide_eq_false (by omega), by omega, by omega, by omega, by omega⟩)
            clear HBVV HCV
            rcases hthree with rfl | ⟨rfl, rfl⟩ | ⟨rfl, rfl, rfl, tt, y1, y2, y3, y4⟩
            all_goals
              go_wp2_with fail
              go_roundw
              case rel => exact ⟨q + 1, by have := HQT.out; omega, by go_num, HI6.out⟩
              case measure => simp [intOf]; omega
          · obtain rfl : q = 60 := by omega
            have HBn := Lib.hid (HB2.out.trans (hBi.mono HB2.out.size))
            clear hBi
            go_wp2_with fail
            go_roundw
            case rel => exact ⟨p + 1, by have := HPT.out; omega, by go_num, HBn.out⟩
            case measure => simp [intOf]; omega
      · obtain rfl : p = 60 := by omega
        have SB := Lib.hid (HSW.out.trans (hB.mono HSW.out.size))
        clear hB
        go_wp2_with fail
        go_at_call 14
        refine (awake_any _).mono ?_
        rintro e WZ ⟨rfl, hB⟩
        have SZ := Lib.hid (SB.out.trans (hB.mono SB.out.size))
        clear hB
        go_wp2_with fail
        go_ret
        exact ⟨rfl, SZ.out⟩
  · have HBV := Lib.hid hb
    clear hb
    go_wp2_with fail
    go_at_call 23
    refine (Same_law _ g1 g2 z1 z2 (S13.out.2 (g1, z1) (by simp)) (S13.out.2 (g2, z2) (by simp))).mono ?_
    rintro e W14 ⟨rfl, hB⟩
    rw [HS12.out]
    have S14 := Lib.hid (show St w W14 [(g5, z5), (g4, z4), (g3, z3), (g2, z2), (e2, some topT), (g1, z1), (e1, some topT)] from (S13.out.up hB))
    have THAs := Lib.hid (HAs.out.below hB)
    clear HAs
    have HAs := THAs
    clear THAs
    clear hB S13
    go_wp2_with fail
    go_at_call 23
    refine (Same_law _ g1 g3 z1 z3 (S14.out.2 (g1, z1) (by simp)) (S14.out.2 (g3, z3) (by simp))).mono ?_
    rintro e W15 ⟨rfl, hB⟩
    rw [HS13.out]
    have S15 := Lib.hid (show St w W15 [(g5, z5), (g4, z4), (g3, z3), (g2, z2), (e2, some topT), (g1, z1), (e1, some topT)] from (S14.out.up hB))
    have THAs := Lib.hid (HAs.out.below hB)
    clear HAs
    have HAs := THAs
    clear THAs
    clear hB S14
    go_wp2_with fail
    go_at_call 23
    refine (Same_law _ g1 g5 z1 z5 (S15.out.2 (g1, z1) (by simp)) (S15.out.2 (g5, z5) (by simp))).mono ?_
    rintro e W16 ⟨rfl, hB⟩
    rw [HS15.out]
    have S16 := Lib.hid (show St w W16 [(g5, z5), (g4, z4), (g3, z3), (g2, z2), (e2, some topT), (g1, z1), (e1, some topT)] from (S15.out.up hB))
    have THAs := Lib.hid (HAs.out.below hB)
    clear HAs
    have HAs := THAs
    clear THAs
    clear hB S15
    go_wp2_with fail
    go_at_call 24
    refine (Empty_any _ g1 z1 (S16.out.2 (g1, z1) (by simp))).mono ?_
    rintro e W17 ⟨rfl, rfl⟩
    rw [HBV.out]
    have S17 := S16
    clear S16
    go_wp2_with fail
    go_at_call 24
    refine (Empty_any _ g3 z3 (S17.out.2 (g3, z3) (by simp))).mono ?_
    rintro e W18 ⟨rfl, rfl⟩
    rw [← HVD.out, HBV.out]
    have S18 := S17
    clear S17
    go_wp2_with fail
    go_at_call 26
    refine (Cons_law _ g3 z3 (S18.out.2 (g3, z3) (by simp))).mono ?_
    rintro e W19 ⟨A3, n3, c3, rfl, hL3, hc3, hA3, hB⟩
    have HA3 := Lib.hid hA3
    have HL3 := Lib.hid hL3
    have S19 := Lib.hid (show St w W19 [(g5, z5), (g4, z4), (g3, z3), (g2, z2), (e2, some topT), (g1, z1), (e1, some topT)] from (S18.out.up hB))
    have THAs := Lib.hid (HAs.out.below hB)
    clear HAs
    have HAs := THAs
    clear THAs
    clear hB S18 hL3 hc3 hA3
    have HRC := Lib.hid (fun W (h : ConsAt W As L) => refClose_any W As ns cs L HNs.out (by omega) h (smallR_perm HSR.out fun x h => h))
    rw [← HZ3.out] at HRC
    go_wp2_with fail
    go_at_call 28
    refine (HRC.out _ HAs.out).mono ?_
    rintro e W20 ⟨rfl, hB⟩
    have S20 := Lib.hid (show St w W20 [(g5, z5), (g4, z4), (g3, z3), (g2, z2), (e2, some topT), (g1, z1), (e1, some topT)] from (S19.out.up hB))
    have THAs := Lib.hid (HAs.out.below hB)
    clear HAs
    have HAs := THAs
    clear THAs
    have THA3 := Lib.hid (HA3.out.below hB)
    clear HA3
    have HA3 := THA3
    clear THA3
    clear hB S19
    have HRD := Lib.hid (fun W => refCons_any W z3 HOK3.out)
    generalize rv z3 = rz at *
    go_wp2_with fail
    go_at_call 27
    refine (HRD.out _).mono ?_
    rintro e W21 hOw
    obtain ⟨A4, n4, c4, rfl, hL4, hc4, hA4, hB⟩ := Owned.listed hOw
    have HA4 := Lib.hid hA4
    have HL4 := Lib.hid hL4
    have S21 := Lib.hid (show St w W21 [(g5, z5), (g4, z4), (g3, z3), (g2, z2), (e2, some topT), (g1, z1), (e1, some topT)] from (S20.out.up hB))
    have THAs := Lib.hid (HAs.out.below hB)
    clear HAs
    have HAs := THAs
    clear THAs
    have THA3 := Lib.hid (HA3.out.below hB)
    clear HA3
    have HA3 := THA3
    clear THA3
    clear hB S20 hL4 hc4 hA4
    have hn34 : n4 = n3 := by rw [← HL3.out, ← HL4.out]
    subst hn34
    go_wp2_with fail
    go_at_call 25
    refine (same_yes _ A3 A4 n4 c3 c4 (consZ z3) HL3.out (by have := HL3.out; have : (consZ z3).length ≤ 3600 := consZ_len z3; omega) HA3.out HA4.out).mono ?_
    rintro e W22 ⟨rfl, hB⟩
    have S22 := Lib.hid (show St w W22 [(g5, z5), (g4, z4), (g3, z3), (g2, z2), (e2, some topT), (g1, z1), (e1, some topT)] from (S21.out.up hB))
    have THAs := Lib.hid (HAs.out.below hB)
    clear HAs
    have HAs := THAs
    clear THAs
    have THA3 := Lib.hid (HA3.out.below hB)
    clear HA3
    have HA3 := THA3
    clear THA3
    have THA4 := Lib.hid (HA4.out.below hB)
    clear HA4
    have HA4 := THA4
    clear THA4
    clear hB S21
    go_wp2_with fail
    go_at_call 24
    refine (Empty_any _ g1 z1 (S22.out.2 (g1, z1) (by simp))).mono ?_
    rintro e W23 ⟨rfl, rfl⟩
    rw [HBV.out]
    have S23 := S22
    clear S22
    obtain rfl : z1 = none := by have := HBV.out; cases z1 with | none => rfl | some M => cases this
    go_wp2_with fail
    go_at_call 26
    refine (Cons_law _ g1 none (S23.out.2 (g1, none) (by simp))).mono ?_
    rintro e W24 ⟨A5, n5, c5, rfl, hL5, hc5, hA5, hB⟩
    obtain rfl : n5 = 0 := hL5.symm
    clear hL5 hc5 hA5
    have S24 := Lib.hid (show St w W24 [(g5, z5), (g4, z4), (g3, z3), (g2, z2), (e2, some topT), (g1, none), (e1, some topT)] from (S23.out.up hB))
    clear hB S23
    go_wp2_with fail
    go_at_call 14
    refine (awake_any _).mono ?_
    rintro e W25 ⟨rfl, hB⟩
    have S25 := Lib.hid (show St w W25 [(g5, z5), (g4, z4), (g3, z3), (g2, z2), (e2, some topT), (g1, none), (e1, some topT)] from (S24.out.up hB))
    clear hB S24
    go_wp2_with fail
    go_ret
    exact ⟨rfl, S25.out.1⟩
end Go.Proofs.Ytockoolcdhgopaa
