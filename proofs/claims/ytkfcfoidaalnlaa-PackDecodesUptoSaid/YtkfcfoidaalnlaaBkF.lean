/- The book: write. -/
import Derived.Test.YtkfcfoidaalnlaaBkE
import Derived.Test.YtkfcfoidaalnlaaDraw
namespace Go.Proofs.Ytkfcfoidaalnlaa.Bk
open Go.ChangeShapes Go.WideShapes Go.ChangeAt Go.RowKit
open Bits HM
set_option linter.unusedVariables false
set_option linter.unusedSimpArgs false

section
variable {Z : Nat → Prop} {W0 : World} {b0 G : Nat} {cnt tot : Int} {fv wv kv fr : Value} {F K : List (Value × List Int)} {R : List Int} {i : Nat} {w : World}
theorem Wr.fv_ (h : Wr Z W0 b0 G cnt tot fv wv kv fr F K R i w) (hp : 0 < F.length) : ∃ ga cA, fv = .slice (some ⟨ga, 0, none⟩) F.length cA ∧ F.length ≤ cA := by
  obtain ⟨ga, cA, h1, h2, -, -, -⟩ := h.f.cell (by rw [List.length_map]; exact hp)
  rw [List.length_map] at h1 h2
  exact ⟨ga, cA, h1, h2⟩
theorem Wr.cell_ {ga N cA : Nat} (h : Wr Z W0 b0 G cnt tot (.slice (some ⟨ga, 0, none⟩) N cA) wv kv fr F K R i w) (a : Nat) (ha : a < F.length) : w.cell? ⟨ga, a, none⟩ = some (nth F a).1 := by
  obtain ⟨g2, c2, e2, -, -, -, hc⟩ := h.f.cell (by rw [List.length_map]; omega)
  injection e2 with e2 _ _
  injection e2 with e2
  injection e2 with e2 _ _
  subst e2
  rw [hc a (by rw [List.length_map]; exact ha)]
  simp [nth, List.getElem?_eq_getElem ha]
theorem Wr.row_ (h : Wr Z W0 b0 G cnt tot fv wv kv fr F K R i w) (a : Nat) (ha : a < F.length) : ∃ A c, (nth F a).1 = .slice A (nth F a).2.length c ∧ (nth F a).2.length ≤ c ∧ (0 < (nth F a).2.length → ∃ g, A = some ⟨g, 0, none⟩) := by
  rcases (h.fd a ha).2 with ⟨e, hn⟩ | ⟨g, cap, cur, e, hg, hh, hnc, hcm, hcs, hx⟩
  · exact ⟨none, 0, by rw [e, hn], by omega, by omega⟩
  · exact ⟨_, cap, e, hnc, fun _ => ⟨g, rfl⟩⟩
end
theorem marksB_of {f : Int} {L : List Int} {n : Nat} (hl : L.length = n) (h : ∀ j, j < n → L[j]?.getD 0 = markB f j) : L = marksB f n := by
  refine List.ext_getElem? fun j => ?_
  by_cases hj : j < n
  · have h1 := h j hj
    rw [← marksB_get f n j hj] at h1
    rw [List.getElem?_eq_getElem (by omega), List.getElem?_eq_getElem (by rw [marksB_length]; exact hj)] at h1 ⊢
    simpa using h1
  · rw [List.getElem?_eq_none (by omega), List.getElem?_eq_none (by rw [marksB_length]; omega)]

/-- every row bears its mark, up to row a -/
def Marked (F : List (Value × List Int)) (k0 a : Nat) : Prop := ∀ c, c < a → (nth F c).2 = marksB (k0 + c : Nat) (nth F c).2.length

theorem OwnS.any {w : World} {base : Nat} {v : Value} {L : List Value} (h : OwnS w base v L) : ∃ A n c, v = .slice A n c := by
  obtain ⟨A, c, e⟩ := h.slice
  exact ⟨A, _, c, e⟩
theorem Wr.done {Z : Nat → Prop} {W0 : World} {b0 G : Nat} {cnt tot : Int} {fv wv kv fr : Value} {F K : List (Value × List Int)} {R : List Int} {i : Nat} {w : World} (h : Wr Z W0 b0 G cnt tot fv wv kv fr F K R i w) (hl : R.length = K.length) :
    Led Z W0 b0 G cnt tot (.slice none 0 0) (.slice none 0 0) kv fr [] [] K R ((w.setCell ⟨G, 2, none⟩ (.slice none 0 0)).setCell ⟨G, 3, none⟩ (.slice none 0 0)) := by
  have hB1 := h.blk.set_ 2 (.slice none 0 0)
  have hI : StabI none w ((w.setCell ⟨G, 2, none⟩ (.slice none 0 0)).setCell ⟨G, 3, none⟩ (.slice none 0 0)) := (StabI.setCell h.blk (by decide) 2 _).trans (StabI.setCell hB1 (by decide) 3 _)
  have hS1 : StabS none w (w.setCell ⟨G, 2, none⟩ (.slice none 0 0)) := StabS.setCell h.blk (by decide) 2 _
  have hS2 : StabS none (w.setCell ⟨G, 2, none⟩ (.slice none 0 0)) ((w.setCell ⟨G, 2, none⟩ (.slice none 0 0)).setCell ⟨G, 3, none⟩ (.slice none 0 0)) := StabS.setCell hB1 (by decide) 3 _
  refine ⟨(h.below.setCell h.gb _).setCell h.gb _, { (h.z.setCell h.z.g 2 _).setCell h.z.g 3 _ with f := (fun b hb => by cases hb), wn := (fun b hb => by cases hb), fd := (fun x hx => by cases hx) }, h.gb, hB1.set_ 3 (.slice none 0 0), World.ownsRow_nil _ _ _ 1, World.ownsRow_nil _ _ _ 1, (h.k.stab hS1 (by simp)).stab hS2 (by simp), h.from_.stab hI (by simp), ?_, rfl, ?_, hl, fun x hx => (h.kd x hx).stab hI (by simp), ?_, h.tb, h.cb, ⟨by simp, h.nb.2⟩, h.rb, ⟨?_, h.kb⟩, ?_, ?_, fun b hb => ⟨?_, (h.s3 b hb).2⟩, ?_, ?_, fun u hu => by cases hu⟩
  · intro x hx; cases hx
  · intro i hi; simp at hi
  · intro a ha; exact h.km a (by omega)
  · intro x hx; cases hx
  · intro b hb; cases hb
  · intro b hb; cases hb
  · intro x hx; cases hx
  · intro b x hx; cases hx
  · intro i j b hij hj; simp at hj
/-- append of one slice, as an operation of a region that draws -/
theorem step_list1 {P : Program} (hu : P.underlying 30 = some (.slice 22)) (hinf : (P.info? 22).map (fun i => (i.zero, i.size, i.bytes)) = some (some (.slice none 0 0), 1, 24)) (w : World) {ops : Array Oper} {o : Oper} {a : Act} {K : Act → World → Prop} {Q : Exit → Act → World → Prop} {E : Prop} (hgd : Region.wanted o (yielded ops a.tmps) = true) (s x : Operand)
    (ho : o.op = .call { callee := .builtin .append, args := #[s, x], argTypes := #[30, 30] })
    (base : Nat) (v : Value) (L : List Value) (hs : a.eval s = v) (hown : OwnS w base v L) (g c : Nat) (z : Value) (hz : z.oneCell' = true) (hx : a.eval x = .slice (some ⟨g, 0, none⟩) 1 c) (hc : w.cell? ⟨g, 0, none⟩ = some z)
    (hlen : L.length + 1 ≤ 1099511627776) (hbase : base ≤ w.heap.size)
    (h : ∀ v' w', OwnS w' base v' (L ++ [z]) → Keep w w' v v' L.length 1 → K (a.put o.dst v') w') : if Region.wanted o (yielded ops a.tmps) = true then Oper.wp P o a w K Q else E := by
  rw [if_pos hgd]
  obtain ⟨i0, hi, hz0, hz1, hz2⟩ := info_parts hinf
  obtain ⟨v', w', hr, h2, h3⟩ := run_append_keep (P := P) w base 30 o.type 22 i0 (.slice none 0 0) 1 24 hu hi hz0 hz1 hz2 rfl (by decide) v L.length _ hown ⟨g, 0, none⟩ 1 c [z] rfl
    (by intro j u hj
        match j, hj with
        | 0, hj => simp at hj; subst hj; simpa [Addr.add] using hc) (by simpa using hz) (by unfold maxLen; omega) (by omega) hbase (by decide)
  unfold Oper.wp execOp
  simp only [ho, resolve, invoke, builtin, Sem.run_bind, Sem.run_pure, Result.andThen_ok, List.map_toArray, List.map_cons, List.map_nil, hs, hx, hr]
  refine h v' w' ?_ h3
  unfold OwnS
  rw [List.length_append]
  exact h2
/-- a row grows: the relation of its loop -/
def GrowRel (Z : Nat → Prop) (W0 : World) (b0 G : Nat) (cnt tot : Int) (fv wv kv fr : Value) (F K : List (Value × List Int)) (R : List Int) (b n k0 M : Nat) (y z : Value) (w : World) : Prop :=
  ∃ j m : Nat, j ≤ M ∧ m = n + j ∧ z = .int .i64 j ∧ Wr Z W0 b0 G cnt tot fv wv kv fr F K R b w ∧ Tm Z b0 fr F K b y m (marksB (k0 + b : Nat) m) w

set_option maxRecDepth 100000 in
set_option maxHeartbeats 4000000 in
theorem write_any (Z : Nat → Prop) (W0 : World) (b0 G : Nat) (cnt tot : Int) (fv wv kv fr : Value) (F : List (Value × List Int)) (Ws : List Value) (K : List (Value × List Int)) (R : List Int) (w : World)
    (h : Led Z W0 b0 G cnt tot fv wv kv fr F Ws K R w) (hsize : K.length + 2 * F.length ≤ 1048576) :
    Calls Try.prog 30 #[.pointer (some ⟨G, 0, none⟩)] w fun e w' => e = .returned (.tuple #[]) ∧ ∃ kv' fr' K' R', K'.length = K.length + 2 * F.length ∧ Led Z W0 b0 G cnt tot (.slice none 0 0) (.slice none 0 0) kv' fr' [] [] K' R' w' := by
  obtain ⟨A, cA, hfv⟩ := h.f.slice
  obtain ⟨AK, cK, hkv⟩ := h.k.slice
  rw [List.length_map] at hfv hkv
  have hkl := h.kl
  have hnb := h.nb
  have hlook := Lib.hid (look_any Z W0 b0 G cnt tot fv wv kv fr F Ws K R w h)
  generalize hN : F.length = N at *
  generalize hk0 : K.length = k0 at *
  have HN := Lib.hid hN
  have HK0 := Lib.hid hk0
  clear h hN hk0
  subst hfv hkv
  go_enter Try.func30, Try.ntmps30
  go_wp2_with fail
  go_at_call 43
  refine hlook.out.mono ?_
  rintro e w1 ⟨rfl, hL1⟩
  have c3 : w1.cell? ⟨G, 4, none⟩ = some (.slice AK k0 cK) := hL1.blk.cell 4
  have HL := Lib.hid hL1.wr
  clear hL1 hlook
  go_wp2_with fail
  clear c3
  go_loopw [3] (fun y wr => ∃ a : Nat, a ≤ N ∧ y = .int .i64 a ∧ ∃ F', F'.length = N ∧ Wr Z W0 b0 G cnt tot (.slice A N cA) wv (.slice AK k0 cK) fr F' K R 0 wr ∧ Marked F' k0 a) (fun y _ => (N - intOf y).toNat)
  case atStart => exact ⟨0, Nat.zero_le _, rfl, F, HN.out, HL.out, fun c hc => absurd hc (by omega)⟩
  case round =>
    clear HL
    obtain ⟨a, ha, rfl, F', hF', hW, hM⟩ := hrel
    have c1 : wr.cell? ⟨G, 2, none⟩ = some (.slice A N cA) := hW.blk.cell 2
    by_cases hlt : a < N
    · have f1 : (a : Int) < N := by omega
      obtain ⟨ga, cA2, hA, hcA⟩ := hW.fv_ (by omega)
      injection hA with hA hle e
      have hcN : N ≤ cA2 := by omega
      clear hle hcA
      subst hA e
      obtain ⟨Aa, ca, hrow, hca, hAa⟩ := hW.row_ a (by omega)
      have hfb := hW.fb a (by omega)
      generalize hn : (nth F' a).2.length = n at *
      have HWM := Lib.hid (show ∃ F'', F''.length = N ∧ Wr Z W0 b0 G cnt tot (.slice (some ⟨ga, 0, none⟩) N cA) wv (.slice AK k0 cK) fr F'' K R 0 wr ∧ Marked F'' k0 a ∧ (nth F'' a).1 = .slice Aa n ca ∧ (nth F'' a).2.length = n ∧ ∀ j, j < 0 → (nth F'' a).2[j]?.getD 0 = markB (k0 + a : Nat) j from ⟨F', hF', hW, hM, hrow, hn, fun j hj => absurd hj (by omega)⟩)
      clear hW hM hrow hn hF'
      have e0 : IntKind.i64.wrap ((k0 : Int) + (a : Int)) = (k0 : Int) + (a : Int) := IntWalk.i64_in _ (by omega)
      go_wp2_with fail
      clear e0
      go_loopw [5] (fun y wx => ∃ j : Nat, j ≤ n ∧ y = .int .i64 j ∧ ∃ F'', F''.length = N ∧ Wr Z W0 b0 G cnt tot (.slice (some ⟨ga, 0, none⟩) N cA) wv (.slice AK k0 cK) fr F'' K R 0 wx ∧ Marked F'' k0 a ∧ (nth F'' a).1 = .slice Aa n ca ∧ (nth F'' a).2.length = n ∧ ∀ j', j' < j → (nth F'' a).2[j']?.getD 0 = markB (k0 + a : Nat) j') (fun y _ => (n - intOf y).toNat)
      case atStart => exact ⟨0, Nat.zero_le _, rfl, HWM.out⟩
      case round =>
        clear HWM c1
        obtain ⟨j, hj, rfl, F'', hF'', hW, hM, hrow, hn, hmk⟩ := hrel
        have d1 : wr.cell? ⟨G, 2, none⟩ = some (.slice (some ⟨ga, 0, none⟩) N cA) := hW.blk.cell 2
        have d2 := hW.cell_ a (by omega)
        rw [hrow] at d2
        have f0 : (0 : Int) ≤ (a : Int) := by omega
        have f2 : (a : Int).toNat = a := by omega
        have f3 : (a : Int) < (cA : Int) := by omega
        by_cases hjn : j < n
        · have g1 : (j : Int) < n := by omega
          obtain ⟨g, rfl⟩ := hAa (by omega)
          have hre : nth F'' a = (.slice (some ⟨g, 0, none⟩) n ca, (nth F'' a).2) := by rw [← hrow]
          have hfr := (hrow ▸ hW.fd a (by omega)).frozenAt hn j
          have hcl := (hrow ▸ hW.fd a (by omega)).cellAt hn j hjn
          have g0 : (0 : Int) ≤ (j : Int) := by omega
          have g2 : (j : Int).toNat = j := by omega
          have g3 : (j : Int) < (ca : Int) := by omega
          have hwn := Lib.hid (ownFn_any ((k0 : Int) + (a : Int)) j (by omega) (by omega) wr.drew)
          generalize (nth F'' a).2[j]?.getD 0 = old at hcl
          have HW := Lib.hid ((hW.past (below_drewN (Below.refl _ _) 1) (below_drewN hW.below 1)).over a (by omega) g n ca _ hre j hjn (markB ((k0 : Int) + (a : Int)) j))
          have HX := Lib.hid (⟨hF'', hM, hn, hmk⟩ : F''.length = N ∧ Marked F'' k0 a ∧ (nth F'' a).2.length = n ∧ ∀ j', j' < j → (nth F'' a).2[j']?.getD 0 = markB (k0 + a : Nat) j')
          clear hW hM hrow hn hmk hre hF''
          go_upto_region 9 with (fail)
          refine wp_region_last (n := 12) (S := fun W => W.cell? ⟨G, 2, none⟩ = some (.slice (some ⟨ga, 0, none⟩) N cA) ∧ W.cell? ⟨ga, a, none⟩ = some (.slice (some ⟨g, 0, none⟩) n ca)) (by kernel_rfl) (by kernel_rfl) (by kernel_rfl) (by kernel_rfl) rfl ⟨d1, d2⟩ (fun hHeld => ?_)
          refine wpAnyH_take (i := 0) (oi := _) (v := .pointer (some ⟨G, 0, none⟩)) rfl (by kernel_rfl) (by kernel_rfl) (by kernel_rfl) (fun _ _ _ h => h) (Or.inl ⟨by rfl, ?_⟩) (by assumption) ?_
          · (intro w hSw; (try dsimp only at hSw); (obtain ⟨hs1, hs2⟩ := hSw); go_simp)
          try simp only [Act.put, List.setIfInBounds_toArray, List.set_cons_zero, List.set_cons_succ]
          refine wpAnyH_take (i := 1) (oi := _) (v := .pointer (some ⟨G, 0, none⟩)) rfl (by kernel_rfl) (by kernel_rfl) (by kernel_rfl) (fun _ _ _ h => h) (Or.inl ⟨by rfl, ?_⟩) (by assumption) ?_
          · (intro w hSw; (try dsimp only at hSw); (obtain ⟨hs1, hs2⟩ := hSw); go_simp)
          try simp only [Act.put, List.setIfInBounds_toArray, List.set_cons_zero, List.set_cons_succ]
          refine wpAnyH_take (i := 2) (oi := _) (v := .pointer (some ⟨G, 2, none⟩)) rfl (by kernel_rfl) (by kernel_rfl) (by kernel_rfl) (fun _ _ _ h => h) (Or.inl ⟨by rfl, ?_⟩) (by assumption) ?_
          · (intro w hSw; (try dsimp only at hSw); (obtain ⟨hs1, hs2⟩ := hSw); go_simp)
          try simp only [Act.put, List.setIfInBounds_toArray, List.set_cons_zero, List.set_cons_succ]
          refine wpAnyH_take (i := 3) (oi := _) (v := .slice (some ⟨ga, 0, none⟩) N cA) rfl (by kernel_rfl) (by kernel_rfl) (by kernel_rfl) (fun _ _ _ h => h) (Or.inl ⟨by rfl, ?_⟩) (by assumption) ?_
          · (intro w hSw; (try dsimp only at hSw); (obtain ⟨hs1, hs2⟩ := hSw); go_simp)
          try simp only [Act.put, List.setIfInBounds_toArray, List.set_cons_zero, List.set_cons_succ]
          refine wpAnyH_take (i := 4) (oi := _) (v := .int .i64 a) rfl (by kernel_rfl) (by kernel_rfl) (by kernel_rfl) (fun _ _ _ h => h) (Or.inl ⟨by rfl, ?_⟩) (by assumption) ?_
          · (intro w hSw; (try dsimp only at hSw); (obtain ⟨hs1, hs2⟩ := hSw); go_simp)
          try simp only [Act.put, List.setIfInBounds_toArray, List.set_cons_zero, List.set_cons_succ]
          refine wpAnyH_take (i := 5) (oi := _) (v := .pointer (some ⟨ga, a, none⟩)) rfl (by kernel_rfl) (by kernel_rfl) (by kernel_rfl) (fun _ _ _ h => h) (Or.inl ⟨by rfl, ?_⟩) (by assumption) ?_
          · (intro w hSw; (try dsimp only at hSw); (obtain ⟨hs1, hs2⟩ := hSw); go_simp)
          try simp only [Act.put, List.setIfInBounds_toArray, List.set_cons_zero, List.set_cons_succ]
          refine wpAnyH_take (i := 6) (oi := _) (v := .slice (some ⟨g, 0, none⟩) n ca) rfl (by kernel_rfl) (by kernel_rfl) (by kernel_rfl) (fun _ _ _ h => h) (Or.inl ⟨by rfl, ?_⟩) (by assumption) ?_
          · (intro w hSw; (try dsimp only at hSw); (obtain ⟨hs1, hs2⟩ := hSw); go_simp)
          try simp only [Act.put, List.setIfInBounds_toArray, List.set_cons_zero, List.set_cons_succ]
          refine wpAnyH_take (i := 7) (oi := _) (v := .int .i64 j) rfl (by kernel_rfl) (by kernel_rfl) (by kernel_rfl) (fun _ _ _ h => h) (Or.inl ⟨by rfl, ?_⟩) (by assumption) ?_
          · (intro w hSw; (try dsimp only at hSw); (obtain ⟨hs1, hs2⟩ := hSw); go_simp)
          try simp only [Act.put, List.setIfInBounds_toArray, List.set_cons_zero, List.set_cons_succ]
          refine wpAnyH_take (i := 8) (oi := _) (v := .int .i64 ((k0 : Int) + (a : Int))) rfl (by kernel_rfl) (by kernel_rfl) (by kernel_rfl) (fun _ _ _ h => h) (Or.inl ⟨by rfl, ?_⟩) (by assumption) ?_
          · (intro w hSw; (try dsimp only at hSw); (obtain ⟨hs1, hs2⟩ := hSw); go_simp)
          try simp only [Act.put, List.setIfInBounds_toArray, List.set_cons_zero, List.set_cons_succ]
          refine wpAnyH_take (i := 9) (oi := _) (v := .int .i64 j) rfl (by kernel_rfl) (by kernel_rfl) (by kernel_rfl) (fun _ _ _ h => h) (Or.inl ⟨by rfl, ?_⟩) (by assumption) ?_
          · (intro w hSw; (try dsimp only at hSw); (obtain ⟨hs1, hs2⟩ := hSw); go_simp)
          try simp only [Act.put, List.setIfInBounds_toArray, List.set_cons_zero, List.set_cons_succ]
          clear hHeld
          refine wpAnyH_ready (rs := [10]) (by kernel_rfl) (by simp) ?_
          refine AllReadyH.cons rfl (fun K hK => ?_) AllReadyH.nil
          go_simp
          go_at_call 44
          refine hwn.out.mono ?_
          rintro e w5 ⟨rfl, rfl⟩
          go_wp2_with fail
          refine hK.out _ _ ⟨d1, d2⟩ (fun hHeld => ?_)
          clear hK K
          try simp only [Act.put, List.setIfInBounds_toArray, List.set_cons_zero, List.set_cons_succ]
          refine wpAnyH_take (i := 11) (oi := _) (v := .pointer (some ⟨g, j, none⟩)) rfl (by kernel_rfl) (by kernel_rfl) (by kernel_rfl) (fun _ _ _ h => h) (Or.inl ⟨by rfl, ?_⟩) (by assumption) ?_
          · (intro w hSw; (try dsimp only at hSw); (obtain ⟨hs1, hs2⟩ := hSw); go_simp)
          try simp only [Act.put, List.setIfInBounds_toArray, List.set_cons_zero, List.set_cons_succ]
          refine wpAnyH_done (by kernel_rfl) ?_ _
          clear hHeld
          unfold Ahead
          refine wpOp_step rfl fun K' hK' => ?_
          go_simp
          refine hK' _ _ ?_
          clear hK' K'
          go_wp2_with fail
          obtain ⟨hF'', hM, hn, hmk⟩ := HX.out
          have ha' : a < F''.length := by omega
          have hs0 : nth (F''.set a (.slice (some ⟨g, 0, none⟩) n ca, (nth F'' a).2.set j (markB ((k0 : Int) + (a : Int)) j))) a = (.slice (some ⟨g, 0, none⟩) n ca, (nth F'' a).2.set j (markB ((k0 : Int) + (a : Int)) j)) := by rw [nth_set ha', if_pos rfl]
          refine ⟨⟨j + 1, by omega, rfl, _, by rw [List.length_set]; exact hF'', HW.out, fun c hc => ?_, by rw [hs0], by rw [hs0, List.length_set]; exact hn, fun j' hj' => ?_⟩, by simp [intOf]; omega⟩
          · rw [nth_set ha', if_neg (by omega)]
            exact hM c hc
          · rw [hs0]
            rw [List.getElem?_set]
            by_cases ej : j = j'
            · subst ej
              rw [if_pos rfl, if_pos (by omega)]
              simp
            · rw [if_neg ej]
              exact hmk j' (by omega)
        · have g1 : decide ((j : Int) < n) = false := by simp; omega
          have hjn2 : j = n := by omega
          have hM2 : Marked F'' k0 (a + 1) := fun c hc => by
            rcases Nat.lt_or_ge c a with h1 | h1
            · exact hM c h1
            · have : c = a := by omega
              subst this
              rw [hn]
              exact marksB_of hn fun j' hj' => hmk j' (by omega)
          have HX := Lib.hid (⟨F'', hF'', hW, hM2⟩ : ∃ F', F'.length = N ∧ Wr Z W0 b0 G cnt tot (.slice (some ⟨ga, 0, none⟩) N cA) wv (.slice AK k0 cK) fr F' K R 0 wr ∧ Marked F' k0 (a + 1))
          clear hW hM hrow hn hmk hM2 hjn2 hF''
          go_wp2_with fail
          go_roundw
          case rel => exact ⟨a + 1, by omega, rfl, HX.out⟩
          case measure => simp [intOf]; omega
    · have f1 : decide ((a : Int) < N) = false := by simp; omega
      have haN : a = N := by omega
      subst haN
      have HWW := Lib.hid hW
      have HMM := Lib.hid hM
      have HFF := Lib.hid hF'
      clear hW hM hF'
      go_wp2_with fail
      clear c1
      go_loopw [6] (fun y wx => ∃ b : Nat, b ≤ a ∧ y = .int .i64 b ∧ ∃ K' R' kv' fr', Wr Z W0 b0 G cnt tot (.slice A a cA) wv kv' fr' F' K' R' b wx ∧ K'.length = k0 + b ∧ R'.length = k0 + b) (fun y _ => (a - intOf y).toNat)
      case atStart => exact ⟨0, Nat.zero_le _, rfl, K, R, _, _, HWW.out, HK0.out, hkl⟩
      case round =>
        clear HWW
        obtain ⟨b, hb, rfl, K', R', kv', fr', hW, hKl, hRl⟩ := hrel
        have c1 : wr.cell? ⟨G, 2, none⟩ = some (.slice A a cA) := hW.blk.cell 2
        by_cases hlb : b < a
        · have f1 : (b : Int) < a := by omega
          have hF' := HFF.out
          obtain ⟨ga, cA2, hA, hcA⟩ := hW.fv_ (by omega)
          injection hA with hA hle e
          clear hle
          subst hA e
          have d2 := hW.cell_ b (by omega)
          have f0 : (0 : Int) ≤ (b : Int) := by omega
          have f2 : (b : Int).toNat = b := by omega
          have f3 : (b : Int) < (cA : Int) := by omega
          have hTM := hW.tm (i := b) (by omega)
          have hfb := hW.fb b (by omega)
          have hmk := HMM.out b (by omega)
          have htb := hW.tb
          rw [hmk] at hTM
          rw [marksB_length] at hTM
          generalize (nth F' b).1 = t0 at d2 hTM
          generalize hnn : (nth F' b).2.length = n at *
          have HW0 := Lib.hid hW
          have HT0 := Lib.hid hTM
          clear hW hTM hmk hnn hF'
          have e0 : IntKind.i64.wrap ((k0 : Int) + (b : Int)) = (k0 : Int) + (b : Int) := IntWalk.i64_in _ (by omega)
          go_wp2_with fail
          clear e0
          obtain ⟨M, hM0⟩ : ∃ M : Nat, (M : Int) = (if 4000 < tot then 4000 else tot) + 70 := ⟨((if 4000 < tot then 4000 else tot) + 70).toNat, by split <;> omega⟩
          have hM1 : M ≤ 4070 := by split at hM0 <;> omega
          have HM0 := Lib.hid hM0
          clear hM0
          go_loopw [8, 9] (fun y z wx => GrowRel Z W0 b0 G cnt tot (.slice (some ⟨ga, 0, none⟩) a cA) wv kv' fr' F' K' R' b n k0 M y z wx) (fun _ z _ => (M - intOf z).toNat)
          case atStart => exact ⟨0, n, Nat.zero_le _, rfl, rfl, HW0.out, HT0.out⟩
          case round =>
            clear HW0 HT0 c1 d2
            obtain ⟨j, m, hj, hm, rfl, hW, hT⟩ := hrel
            have c0 : wr.cell? ⟨G, 1, none⟩ = some (.int .i64 tot) := hW.blk.cell 1
            obtain ⟨t1, t2⟩ := htb
            obtain ⟨At, ct, rfl⟩ := hT.form
            by_cases hjM : j < M
            · have g1 : (j : Int) < (if 4000 < tot then 4000 else tot) + 70 := by rw [← HM0.out]; omega
              have hT1 := Lib.hid (fun o => hT.alloc hW o)
              have hW1 := Lib.hid (fun o => hW.alloc o)
              have hmb : m ≤ 1052646 := by omega
              have hlen := Lib.hid (show (marksB (k0 + b : Nat) m).length + 1 ≤ 1099511627776 by rw [marksB_length]; omega)
              have hbase := Lib.hid (fun o => Wr.b0lt (hW.alloc o))
              have HM2 := Lib.hid hm
              clear hT hW hm
              have e4 := Lib.hid (show IntKind.i64.wrap ((j : Int) + 1) = (j : Int) + 1 from IntWalk.i64_in _ (by omega))
              have HJM := Lib.hid hjM
              have hwn := Lib.hid (ownFn_any ((k0 : Int) + (b : Int)) m (by omega) (by omega) wr)
              have hq := Lib.hid (@append_byte1 Try.prog Try.underlying22 byte_info)
              go_wp2_with (first
                | (go_at_call 44; refine hwn.out.mono ?_; rintro e w5 ⟨rfl, rfl⟩)
                | (at_builtin; apply hq.out; (case hgd => rfl); (case ho => rfl); (case hs => rfl); (case hown => exact (hT1.out _).own); (case hx => rfl); (case hc => exact cell_new0 _ _ _); (case hlen => exact hlen.out); (case hbase => exact hbase.out _); intro v' w' hown' hkeep; (have HKP := Lib.hid hkeep); (have HOW := Lib.hid hown'); clear hkeep hown'; (have e4' := e4.out)))
              have hkp := HKP.out
              rw [marksB_length] at hkp
              obtain ⟨y1, y2⟩ := (hW1.out _).grow (by rw [HFF.out]; exact hlb) (hT1.out _) hkp HOW.out
              refine ⟨⟨j + 1, m + 1, by omega, by have := HM2.out; omega, rfl, y1, ?_⟩, by simp [intOf]; omega⟩
              have e : marksB (k0 + b : Nat) (m + 1) = marksB (k0 + b : Nat) m ++ [markB ((k0 : Int) + (b : Int)) m] := by
                rw [marksB_succ]
                simp
              rw [e]
              exact y2
            · have g1 : decide ((j : Int) < (if 4000 < tot then 4000 else tot) + 70) = false := by
                rw [← HM0.out]
                simp
                omega
              have hjM2 : j = M := by omega
              have hmb : m ≤ 1052646 := by omega
              have hHF := HFF.out
              obtain ⟨hap3, hap4⟩ := hT.apart hW (by omega)
              have c3 : ∀ o, (wr.alloc o).cell? ⟨G, 4, none⟩ = some kv' := fun o => (hW.alloc o).blk.cell 4
              have hW1 := Lib.hid (fun o => hW.alloc o)
              have hT1 := Lib.hid (fun o => hT.alloc hW o)
              have c30 : wr.cell? ⟨G, 4, none⟩ = some kv' := hW.blk.cell 4
              have hml := Lib.hid (marksB_length (k0 + b : Nat) m)
              have hlenK := Lib.hid (show (K'.map (·.1)).length + 1 ≤ 1099511627776 by rw [List.length_map]; omega)
              have hlenR := Lib.hid (show R'.length + 1 ≤ 1099511627776 by omega)
              have hkb := Lib.hid (show K'.length + 1 ≤ 1048576 by omega)
              have hap3' := Lib.hid hap3
              have hap4' := Lib.hid hap4
              have hq := Lib.hid (@append_int1 Try.prog Try.underlying31 int_info)
              have hp := Lib.hid (@append_list1 Try.prog Try.underlying30 slice_info)
              have hstep := Lib.hid (fun kv2 w2 (hk3 : Keep (wr.alloc (.cells #[.slice At m ct] 22)) w2 kv' kv2 (K'.map (·.1)).length 1) hown2 => (hW.alloc (.cells #[.slice At m ct] 22)).keep (hT.alloc hW _).own hT.z (by rw [hml.out]; omega) hkb.out (show b ≤ b + 1 by omega) hap3 hap4 (kv' := kv2) (w' := w2) (by rw [List.length_map] at hk3; exact hk3) hown2)
              have hRK := Lib.hid (show R'.length < (K' ++ [(Value.slice At m ct, marksB (k0 + b : Nat) m)]).length by rw [List.length_append, List.length_singleton]; omega)
              have hf := Lib.hid (show 0 ≤ (k0 : Int) + (b : Int) ∧ (k0 : Int) + (b : Int) ≤ 1048576 by omega)
              have hnum := Lib.hid (show (nth (K' ++ [(Value.slice At m ct, marksB (k0 + b : Nat) m)]) R'.length).2 = marksB ((k0 : Int) + (b : Int)) (nth (K' ++ [(Value.slice At m ct, marksB (k0 + b : Nat) m)]) R'.length).2.length by
                have er : R'.length = K'.length := by omega
                rw [er, nth_last]
                show marksB (k0 + b : Nat) m = marksB ((k0 : Int) + (b : Int)) (marksB (k0 + b : Nat) m).length
                rw [hml.out]
                push_cast
                rfl)
              clear hW hT hap3 hap4 hjM2 hHF hm
              go_wp2_with (first
                | (at_builtin; apply hp.out; (case hgd => rfl); (case ho => rfl); (case hs => rfl); (case hown => exact (hW1.out _).k); (case hx => rfl); (case hc => exact cell_new0 _ _ _); (case hz => rfl); (case hlen => exact hlenK.out); (case hbase => exact Wr.b0lt (hW1.out _)); intro kv2 w2 hown2 hkeep2;
                    (obtain ⟨A2, n2, c2, rfl⟩ := hown2.any); (have HB2 := (hW1.out _).blkS hkeep2); (have x3 : w2.cell? ⟨G, 4, none⟩ = some kv' := HB2.cell 4); (have x3f : w2.frozen? ⟨G, 4, none⟩ = false := HB2.frozen 4); (have HW2 := Lib.hid (hstep.out _ w2 hkeep2 hown2)); (have c40 : (w2.setCell ⟨G, 4, none⟩ (.slice A2 n2 c2)).cell? ⟨G, 5, none⟩ = some fr' := HW2.out.blk.cell 5); clear hkeep2 hown2 HB2)
                | (at_builtin; apply hq.out; (case hgd => rfl); (case ho => rfl); (case hs => rfl); (case hown => exact (HW2.out.alloc _).from_); (case hx => rfl); (case hc => exact cell_new1 _ _ _ _ _); (case hlen => exact hlenR.out); (case hbase => exact Wr.b0lt (HW2.out.alloc _)); intro fr2 w4 hown4 hkeep4;
                    (obtain ⟨A4, n4, c4, rfl⟩ := hown4.any); (have HB4 := (HW2.out.alloc _).blkI hkeep4); (have x4 : w4.cell? ⟨G, 5, none⟩ = some fr' := HB4.cell 5); (have x4f : w4.frozen? ⟨G, 5, none⟩ = false := HB4.frozen 5);
                    (have HW4 := Lib.hid ((HW2.out.alloc _).num hRK.out hnum.out hf.out hkeep4 hown4)); clear hkeep4 hown4 HB4))
              exact ⟨⟨b + 1, by omega, rfl, _, _, _, _, HW4.out, by rw [List.length_append, List.length_singleton]; omega, by rw [List.length_append, List.length_singleton]; omega⟩, by simp [intOf]; omega⟩
        · have f1 : decide ((b : Int) < a) = false := by simp; omega
          have hba : b = a := by omega
          subst hba
          have HWW := Lib.hid (⟨K', R', kv', fr', hW, hKl, hRl⟩ : ∃ K' R' kv' fr', Wr Z W0 b0 G cnt tot (.slice A b cA) wv kv' fr' F' K' R' b wr ∧ K'.length = k0 + b ∧ R'.length = k0 + b)
          clear hW hKl hRl
          go_wp2_with fail
          clear c1
          go_loopw [10] (fun y wx => ∃ d : Nat, d ≤ b ∧ y = .int .i64 d ∧ ∃ K' R' kv' fr', Wr Z W0 b0 G cnt tot (.slice A b cA) wv kv' fr' F' K' R' b wx ∧ K'.length = k0 + b + d ∧ R'.length = k0 + b + d) (fun y _ => (b - intOf y).toNat)
          case atStart =>
            obtain ⟨K', R', kv', fr', h1, h2, h3⟩ := HWW.out
            exact ⟨0, Nat.zero_le _, rfl, K', R', kv', fr', h1, h2, h3⟩
          case round =>
            clear HWW
            obtain ⟨d, hd, rfl, K', R', kv', fr', hW, hKl, hRl⟩ := hrel
            have c1 : wr.cell? ⟨G, 2, none⟩ = some (.slice A b cA) := hW.blk.cell 2
            by_cases hld : d < b
            · have f1 : (d : Int) < b := by omega
              have hHF := HFF.out
              obtain ⟨ga, cA2, hA, hcA⟩ := hW.fv_ (by omega)
              injection hA with hA hle e
              clear hle
              subst hA e
              have d2 := hW.cell_ d (by omega)
              have f0 : (0 : Int) ≤ (d : Int) := by omega
              have f2 : (d : Int).toNat = d := by omega
              have f3 : (d : Int) < (cA : Int) := by omega
              have hfb := hW.fb d (by omega)
              have hmk := HMM.out d (by omega)
              have hfd := hW.fd d (by omega)
              have hs3 := fun x hx => (hW.s3 x hx).1 d (by omega)
              have hzd := hW.z.fd _ (nth_mem (F := F') (a := d) (by omega))
              obtain ⟨Ad, cd, hrow, -, -⟩ := hW.row_ d (by omega)
              generalize hLL : (nth F' d).2 = LL at *
              generalize hll : LL.length = ll at *
              rw [hrow] at d2 hfd hs3 hzd
              have c3 : wr.cell? ⟨G, 4, none⟩ = some kv' := hW.blk.cell 4
              obtain ⟨Ak, nk, ck, rfl⟩ := hW.k.any
              have e0 : IntKind.i64.wrap ((k0 : Int) + (d : Int)) = (k0 : Int) + (d : Int) := IntWalk.i64_in _ (by omega)
              have hWd := hW.past (below_drewN (Below.refl _ _) 1) (below_drewN hW.below 1)
              have hWa := Lib.hid (fun o => hWd.alloc o)
              have hRow := Lib.hid (fun o => (hfd.stab (StabI.below (below_drewN (Below.refl _ _) 1)) (by simp)).stab (StabI.below ((Below.refl _ _).alloc (Nat.le_refl _) o)) (by simp))
              have hlenK := Lib.hid (show (K'.map (·.1)).length + 1 ≤ 1099511627776 by rw [List.length_map]; omega)
              have hlenR := Lib.hid (show R'.length + 1 ≤ 1099511627776 by omega)
              have hstep := Lib.hid (fun kv2 w2 o (hk3 : Keep (wr.drew.alloc o) w2 (.slice Ak nk ck) kv2 (K'.map (·.1)).length 1) hown2 => (hWa.out o).keep (hRow.out o) hzd (show LL.length ≤ 2097152 by omega) (show K'.length + 1 ≤ 1048576 by omega) (Nat.le_refl b) hs3 (fun x a h0 ha => absurd ha (by omega)) (kv' := kv2) (w' := w2) (by rw [List.length_map] at hk3; exact hk3) hown2)
              have hRK := Lib.hid (show R'.length < (K' ++ [(Value.slice Ad ll cd, LL)]).length by rw [List.length_append, List.length_singleton]; omega)
              have hf := Lib.hid (show 0 ≤ (k0 : Int) + (d : Int) ∧ (k0 : Int) + (d : Int) ≤ 1048576 by omega)
              have hnum := Lib.hid (show (nth (K' ++ [(Value.slice Ad ll cd, LL)]) R'.length).2 = marksB ((k0 : Int) + (d : Int)) (nth (K' ++ [(Value.slice Ad ll cd, LL)]) R'.length).2.length by
                have er : R'.length = K'.length := by omega
                rw [er, nth_last]
                show LL = marksB ((k0 : Int) + (d : Int)) LL.length
                rw [hll]
                exact hmk)
              have hq := Lib.hid (@append_int1 Try.prog Try.underlying31 int_info)
              have hp := Lib.hid (@append_list1 Try.prog Try.underlying30 slice_info)
              have HKR := Lib.hid (show K'.length = k0 + b + d ∧ R'.length = k0 + b + d from ⟨hKl, hRl⟩)
              have HS1 := Lib.hid (show ∀ o, (wr.drew.alloc o).cell? ⟨G, 4, none⟩ = some (.slice Ak nk ck) ∧ (wr.drew.alloc o).cell? ⟨G, 2, none⟩ = some (.slice (some ⟨ga, 0, none⟩) b cA) ∧ (wr.drew.alloc o).cell? ⟨ga, d, none⟩ = some (.slice Ad ll cd) from fun o => by
                have h1 := (hWa.out o).blk
                have h2 := (hWa.out o).cell_ d (by omega)
                rw [hrow] at h2
                exact ⟨h1.cell 4, h1.cell 2, h2⟩)
              have hs1 := hW.s1
              have HGK := Lib.hid (show ∀ o kv2 w2, Keep (wr.drew.alloc o) w2 (.slice Ak nk ck) kv2 (K'.map (·.1)).length 1 → w2.cell? ⟨ga, d, none⟩ = some (.slice Ad ll cd) from fun o kv2 w2 hk => by
                have h1 := (HS1.out o).2.2
                rw [← h1]
                refine hk.cell_ (p := ⟨ga, d, none⟩) ?_ fun e => hs1 ga rfl e
                exact ((hWa.out o).f.lt rfl).2)
              clear hW hWd hs3 hzd hrow hmk hfd hLL hfb hll hHF hKl hRl hs1
              go_upto_region 24 with (fail)
              refine wp_region_last (n := 16) (S := fun W => W.cell? ⟨G, 4, none⟩ = some (.slice Ak nk ck) ∧ W.cell? ⟨G, 2, none⟩ = some (.slice (some ⟨ga, 0, none⟩) b cA) ∧ W.cell? ⟨ga, d, none⟩ = some (.slice Ad ll cd)) (by kernel_rfl) (by kernel_rfl) (by kernel_rfl) (by kernel_rfl) rfl ⟨c3, c1, d2⟩ (fun hHeld => ?_)
              refine wpAnyH_take (i := 0) (oi := _) (v := .pointer (some ⟨G, 0, none⟩)) rfl (by kernel_rfl) (by kernel_rfl) (by kernel_rfl) (fun _ _ _ h => h) (Or.inl ⟨by rfl, ?_⟩) (by assumption) ?_
              · (intro w hSw; (try dsimp only at hSw); (obtain ⟨hs1, hs2, hs3⟩ := hSw); go_simp)
              try simp only [Act.put, List.setIfInBounds_toArray, List.set_cons_zero, List.set_cons_succ]
              refine wpAnyH_take (i := 1) (oi := _) (v := .pointer (some ⟨G, 0, none⟩)) rfl (by kernel_rfl) (by kernel_rfl) (by kernel_rfl) (fun _ _ _ h => h) (Or.inl ⟨by rfl, ?_⟩) (by assumption) ?_
              · (intro w hSw; (try dsimp only at hSw); (obtain ⟨hs1, hs2, hs3⟩ := hSw); go_simp)
              try simp only [Act.put, List.setIfInBounds_toArray, List.set_cons_zero, List.set_cons_succ]
              refine wpAnyH_take (i := 2) (oi := _) (v := .pointer (some ⟨G, 0, none⟩)) rfl (by kernel_rfl) (by kernel_rfl) (by kernel_rfl) (fun _ _ _ h => h) (Or.inl ⟨by rfl, ?_⟩) (by assumption) ?_
              · (intro w hSw; (try dsimp only at hSw); (obtain ⟨hs1, hs2, hs3⟩ := hSw); go_simp)
              try simp only [Act.put, List.setIfInBounds_toArray, List.set_cons_zero, List.set_cons_succ]
              refine wpAnyH_take (i := 3) (oi := _) (v := .pointer (some ⟨G, 4, none⟩)) rfl (by kernel_rfl) (by kernel_rfl) (by kernel_rfl) (fun _ _ _ h => h) (Or.inl ⟨by rfl, ?_⟩) (by assumption) ?_
              · (intro w hSw; (try dsimp only at hSw); (obtain ⟨hs1, hs2, hs3⟩ := hSw); go_simp)
              try simp only [Act.put, List.setIfInBounds_toArray, List.set_cons_zero, List.set_cons_succ]
              refine wpAnyH_take (i := 4) (oi := _) (v := .slice Ak nk ck) rfl (by kernel_rfl) (by kernel_rfl) (by kernel_rfl) (fun _ _ _ h => h) (Or.inl ⟨by rfl, ?_⟩) (by assumption) ?_
              · (intro w hSw; (try dsimp only at hSw); (obtain ⟨hs1, hs2, hs3⟩ := hSw); go_simp)
              try simp only [Act.put, List.setIfInBounds_toArray, List.set_cons_zero, List.set_cons_succ]
              refine wpAnyH_take (i := 5) (oi := _) (v := .pointer (some ⟨G, 0, none⟩)) rfl (by kernel_rfl) (by kernel_rfl) (by kernel_rfl) (fun _ _ _ h => h) (Or.inl ⟨by rfl, ?_⟩) (by assumption) ?_
              · (intro w hSw; (try dsimp only at hSw); (obtain ⟨hs1, hs2, hs3⟩ := hSw); go_simp)
              try simp only [Act.put, List.setIfInBounds_toArray, List.set_cons_zero, List.set_cons_succ]
              refine wpAnyH_take (i := 6) (oi := _) (v := .pointer (some ⟨G, 0, none⟩)) rfl (by kernel_rfl) (by kernel_rfl) (by kernel_rfl) (fun _ _ _ h => h) (Or.inl ⟨by rfl, ?_⟩) (by assumption) ?_
              · (intro w hSw; (try dsimp only at hSw); (obtain ⟨hs1, hs2, hs3⟩ := hSw); go_simp)
              try simp only [Act.put, List.setIfInBounds_toArray, List.set_cons_zero, List.set_cons_succ]
              refine wpAnyH_take (i := 7) (oi := _) (v := .pointer (some ⟨G, 2, none⟩)) rfl (by kernel_rfl) (by kernel_rfl) (by kernel_rfl) (fun _ _ _ h => h) (Or.inl ⟨by rfl, ?_⟩) (by assumption) ?_
              · (intro w hSw; (try dsimp only at hSw); (obtain ⟨hs1, hs2, hs3⟩ := hSw); go_simp)
              try simp only [Act.put, List.setIfInBounds_toArray, List.set_cons_zero, List.set_cons_succ]
              refine wpAnyH_take (i := 8) (oi := _) (v := .slice (some ⟨ga, 0, none⟩) b cA) rfl (by kernel_rfl) (by kernel_rfl) (by kernel_rfl) (fun _ _ _ h => h) (Or.inl ⟨by rfl, ?_⟩) (by assumption) ?_
              · (intro w hSw; (try dsimp only at hSw); (obtain ⟨hs1, hs2, hs3⟩ := hSw); go_simp)
              try simp only [Act.put, List.setIfInBounds_toArray, List.set_cons_zero, List.set_cons_succ]
              refine wpAnyH_take (i := 9) (oi := _) (v := .int .i64 d) rfl (by kernel_rfl) (by kernel_rfl) (by kernel_rfl) (fun _ _ _ h => h) (Or.inl ⟨by rfl, ?_⟩) (by assumption) ?_
              · (intro w hSw; (try dsimp only at hSw); (obtain ⟨hs1, hs2, hs3⟩ := hSw); go_simp)
              try simp only [Act.put, List.setIfInBounds_toArray, List.set_cons_zero, List.set_cons_succ]
              refine wpAnyH_take (i := 10) (oi := _) (v := .pointer (some ⟨ga, d, none⟩)) rfl (by kernel_rfl) (by kernel_rfl) (by kernel_rfl) (fun _ _ _ h => h) (Or.inl ⟨by rfl, ?_⟩) (by assumption) ?_
              · (intro w hSw; (try dsimp only at hSw); (obtain ⟨hs1, hs2, hs3⟩ := hSw); go_simp)
              try simp only [Act.put, List.setIfInBounds_toArray, List.set_cons_zero, List.set_cons_succ]
              refine wpAnyH_take (i := 11) (oi := _) (v := .slice Ad ll cd) rfl (by kernel_rfl) (by kernel_rfl) (by kernel_rfl) (fun _ _ _ h => h) (Or.inl ⟨by rfl, ?_⟩) (by assumption) ?_
              · (intro w hSw; (try dsimp only at hSw); (obtain ⟨hs1, hs2, hs3⟩ := hSw); go_simp)
              try simp only [Act.put, List.setIfInBounds_toArray, List.set_cons_zero, List.set_cons_succ]
              clear hHeld
              refine wpAnyH_ready (rs := [12]) (by kernel_rfl) (by simp) ?_
              refine AllReadyH.cons rfl (fun K hK => ?_) AllReadyH.nil
              go_simp
              refine hK.out _ _ (HS1.out _) (fun hHeld => ?_)
              clear hK K hHeld
              try simp only [Act.put, List.setIfInBounds_toArray, List.set_cons_zero, List.set_cons_succ]
              refine wpAnyH_ready (rs := [13]) (by kernel_rfl) (by simp) ?_
              refine AllReadyH.cons rfl (fun K hK => ?_) AllReadyH.nil
              refine step_list1 Try.underlying30 slice_info _ rfl (.tmp 123) (.tmp 131) rfl b0 _ _ rfl (hWa.out _).k _ _ _ rfl rfl (cell_new0 _ _ _) hlenK.out (Wr.b0lt (hWa.out _)) ?_
              intro kv2 w2 hown2 hkeep2
              obtain ⟨A2, n2, c2, rfl⟩ := hown2.any
              have HB2 := (hWa.out _).blkS hkeep2
              have x3 : w2.cell? ⟨G, 4, none⟩ = some (.slice Ak nk ck) := HB2.cell 4
              have x3f : w2.frozen? ⟨G, 4, none⟩ = false := HB2.frozen 4
              have x1 : w2.cell? ⟨G, 2, none⟩ = some (.slice (some ⟨ga, 0, none⟩) b cA) := HB2.cell 2
              have HW2 := Lib.hid (hstep.out _ w2 _ hkeep2 hown2)
              have c40 : (w2.setCell ⟨G, 4, none⟩ (.slice A2 n2 c2)).cell? ⟨G, 5, none⟩ = some fr' := HW2.out.blk.cell 5
              refine hK.out _ _ ⟨x3, x1, HGK.out _ _ _ hkeep2⟩ (fun hHeld => ?_)
              clear hK K hkeep2 hown2 HB2
              try simp only [Act.put, List.setIfInBounds_toArray, List.set_cons_zero, List.set_cons_succ]
              refine wpAnyH_take (i := 14) (oi := _) (v := .pointer (some ⟨G, 0, none⟩)) rfl (by kernel_rfl) (by kernel_rfl) (by kernel_rfl) (fun _ _ _ h => h) (Or.inl ⟨by rfl, ?_⟩) (by assumption) ?_
              · (intro w hSw; (try dsimp only at hSw); (obtain ⟨hs1, hs2, hs3⟩ := hSw); go_simp)
              try simp only [Act.put, List.setIfInBounds_toArray, List.set_cons_zero, List.set_cons_succ]
              refine wpAnyH_take (i := 15) (oi := _) (v := .pointer (some ⟨G, 4, none⟩)) rfl (by kernel_rfl) (by kernel_rfl) (by kernel_rfl) (fun _ _ _ h => h) (Or.inl ⟨by rfl, ?_⟩) (by assumption) ?_
              · (intro w hSw; (try dsimp only at hSw); (obtain ⟨hs1, hs2, hs3⟩ := hSw); go_simp)
              try simp only [Act.put, List.setIfInBounds_toArray, List.set_cons_zero, List.set_cons_succ]
              refine wpAnyH_done (by kernel_rfl) ?_ _
              clear hHeld x1 c3 c1 d2 hstep HS1 HGK hRow hp hlenK
              unfold Ahead
              refine wpOp_step rfl fun K' hK' => ?_
              go_simp
              refine hK' _ _ ?_
              clear hK' K'
              go_wp2_with (at_builtin; apply hq.out; (case hgd => rfl); (case ho => rfl); (case hs => rfl); (case hown => exact (HW2.out.alloc _).from_); (case hx => rfl); (case hc => exact cell_new1 _ _ _ _ _); (case hlen => exact hlenR.out); (case hbase => exact Wr.b0lt (HW2.out.alloc _)); intro fr2 w4 hown4 hkeep4;
                                  (obtain ⟨A4, n4, c4, rfl⟩ := hown4.any); (have HB4 := (HW2.out.alloc _).blkI hkeep4); (have x4 : w4.cell? ⟨G, 5, none⟩ = some fr' := HB4.cell 5); (have x4f : w4.frozen? ⟨G, 5, none⟩ = false := HB4.frozen 5);
                                  (have HW4 := Lib.hid ((HW2.out.alloc _).num hRK.out hnum.out hf.out hkeep4 hown4)); clear hkeep4 hown4 HB4)
              obtain ⟨hKl, hRl⟩ := HKR.out
              refine ⟨⟨d + 1, by omega, rfl, _, _, _, _, HW4.out, by rw [List.length_append, List.length_singleton]; omega, by rw [List.length_append, List.length_singleton]; omega⟩, by simp [intOf]; omega⟩
            · have f1 : decide ((d : Int) < b) = false := by simp; omega
              have hdb : d = b := by omega
              have hW0 := hW.blk
              have HWX := Lib.hid hW
              have x1f : wr.frozen? ⟨G, 2, none⟩ = false := hW0.frozen 2
              have x2 : (wr.setCell ⟨G, 2, none⟩ (.slice none 0 0)).cell? ⟨G, 3, none⟩ = some wv := (hW0.set_ 2 _).cell 3
              have x2f : (wr.setCell ⟨G, 2, none⟩ (.slice none 0 0)).frozen? ⟨G, 3, none⟩ = false := (hW0.set_ 2 _).frozen 3
              clear hW hW0
              go_wp2_with fail
              go_end0
              have hWX := HWX.out
              exact ⟨rfl, kv', fr', K', R', by omega, hWX.done (by omega)⟩
end Go.Proofs.Ytkfcfoidaalnlaa.Bk
