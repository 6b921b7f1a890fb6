/- Package pack: the next section. -/
import Derived.Test.YtkfcfoidaalnlaaPkK
namespace Go.Proofs.Ytkfcfoidaalnlaa.Pak
open Go.ChangeShapes Go.WideShapes Go.ChangeAt Go.RowKit
set_option linter.unusedVariables false
set_option linter.unusedSimpArgs false
set_option maxRecDepth 100000
section
variable {P : Program}
theorem step_alloc_seg {ops : Array Oper} {o : Oper} {a : Act} {w : World} {K : Act → World → Prop} {Q : Exit → Act → World → Prop} {E : Prop} (hw : Region.wanted o (yielded ops a.tmps) = true) (t : TypeId) (ho : o.op = .alloc t)
    (n : Nat) (f : Nat → Value) (hz : (P.info? t).bind (fun i => i.zero.map Value.cells) = some (arr n f))
    (h : ∀ w', FB w' w.heap.size t n f → Below w.heap.size w w' → w'.heap.size = w.heap.size + 1 → K (a.put o.dst (.pointer (some ⟨w.heap.size, 0, none⟩))) w') : if Region.wanted o (yielded ops a.tmps) = true then Oper.wp P o a w K Q else E := by
  rw [if_pos hw]
  unfold Oper.wp execOp
  simp only [ho, Sem.run_bind, run_alloc_seg w t n f hz, Result.andThen_ok, Sem.run_pure]
  exact h _ (FB.new w t n f) ((Below.refl _ _).alloc (Nat.le_refl _) _) (by simp)
theorem step_store_seg {ops : Array Oper} {o : Oper} {a : Act} {w : World} {K : Act → World → Prop} {Q : Exit → Act → World → Prop} {E : Prop} (hw : Region.wanted o (yielded ops a.tmps) = true) (ty : TypeId) (x y : Operand) (ho : o.op = .store ty x y)
    (g off : Nat) (t : TypeId) (N n : Nat) (f c : Nat → Value) (hx : a.eval x = .pointer (some ⟨g, off, none⟩)) (hy : a.eval y = .agg (arr n c))
    (hg : FB w g t N f) (hn : off + n ≤ N) (hi : (P.info? ty).map (·.size) = some n) (h1 : ∀ q, q < n → (c q).oneCell' = true)
    (h : ∀ w', FB w' g t N (updR f off n c) → Touch g w w' → w'.heap.size = w.heap.size → K (a.put o.dst undef) w') : if Region.wanted o (yielded ops a.tmps) = true then Oper.wp P o a w K Q else E := by
  rw [if_pos hw]
  unfold Oper.wp execOp
  simp only [ho, hx, hy, Instr.storeAt, Instr.sureAddr, Sem.run_bind, Sem.run_pure, Result.andThen_ok, run_storeVar_seg w g off t ty N n f c hg hn hi h1]
  exact h _ (setRow_FB hg) (setRow_touch w g _) (by simp)
end
set_option maxHeartbeats 1000000 in
theorem short_any (w : World) (g : Nat) (A : Option Addr) (n : Nat) (p last : Int) (h : FB w g 71 3 (rdF A n p last)) :
    Calls Try.prog 50 #[.pointer (some ⟨g, 0, none⟩)] w (RetB w (.agg (arr 2 (ftF n 120)))) := by
  have HG := Lib.hid h
  have x0 : w.cell? ⟨g, 0, none⟩ = some (.slice A n n) := h.cell 0 (by decide)
  clear h
  go_enter Try.func50, Try.ntmps50
  go_upto_region 1 with (refine wpList_alloc_seg rfl 67 rfl 2 (ftF 0 0) zeroFt ?_; intro w1 h1 hB1 hs1)
  have y0 : w1.cell? ⟨g, 0, none⟩ = some (.slice A n n) := (HG.out.up hB1).cell 0 (by decide)
  have hn1 : w.heap.size < w1.heap.size := by omega
  clear x0
  go_wp2_with (refine wpList_store_all rfl 67 _ _ rfl w.heap.size 67 2 _ (ftF n 120) rfl rfl h1 sizeFt (ftF_one _ _) ?_; intro w2 h2 hT2 hs2)
  refine bodyPost_ret (result_seg rfl _ _ w.heap.size _ 2 _ _ rfl h2 Try.underlying67 rfl sizeFt) rfl ⟨rfl, hB1.trans (hT2.below (Nat.le_refl _) hB1.size)⟩
/-- what section answers -/
def SecRes (g b off n p : Nat) (last : Int) (r : Except Fl ((Int × List Int) × List Int)) (e : Ending) (w' : World) : Prop := match r with
  | .error (lf, er) => e = .returned (.tuple #[.agg (arr 3 (secF Sc.zero)), .agg (arr 2 (ftF (n - lf : Nat) er))]) ∧ FB w' g 71 3 (rdF (some ⟨b, off, none⟩) n p last)
  | .ok ((kind, c), t) => e = .returned (.tuple #[.agg (arr 3 (secF ⟨kind, (p + 4 : Nat), some ⟨b, off + (p + 4), none⟩, c.length, c.length, c⟩)), .agg (arr 2 (ftF 0 0))]) ∧ FB w' g 71 3 (rdF (some ⟨b, off, none⟩) n (n - t.length : Nat) kind)
def SecEnd (w : World) (g b off n p : Nat) (last : Int) (B : List Int) (e : Ending) (w' : World) : Prop := Touch g w w' ∧ SecRes g b off n p last (secR last (B.drop p)) e w'
structure SecW (w : World) (g b off n p : Nat) (last : Int) (B : List Int) (gs gf : Nat) (W : World) : Prop where
  rd : FB W g 71 3 (rdF (some ⟨b, off, none⟩) n p last)
  sec : FB W gs 77 3 (secF Sc.zero)
  flt : ∃ f, FB W gf 67 2 f
  byt : BytesAt W (some ⟨b, off, none⟩) B
  touch : Touch g w W
  ne : g ≠ gs ∧ g ≠ gf ∧ gs ≠ gf ∧ b ≠ gs ∧ b ≠ gf ∧ b ≠ g ∧ w.heap.size ≤ gs ∧ w.heap.size ≤ gf
theorem touch_then {g : Nat} {w W W' : World} (h : Touch g w W) (hb : Below w.heap.size W W') : Touch g w W' :=
  ⟨hb.os.trans h.os, hb.tape.trans h.tape, hb.output.trans h.output, Nat.le_trans h.size hb.size, fun k hk hne => (hb.block k hk).trans (h.block k hk hne)⟩
theorem bytes_touch {W W' : World} {b off k : Nat} {B : List Int} (h : BytesAt W (some ⟨b, off, none⟩) B) (ht : Touch k W W') (hne : b ≠ k) : BytesAt W' (some ⟨b, off, none⟩) B := fun hp => by
  obtain ⟨b', off', e, h1, h2⟩ := h hp
  injection e with e; injection e with e1 e2
  subst e1 e2
  exact ⟨b, off, rfl, Nat.lt_of_lt_of_le h1 ht.size, fun i hi => (cell_same (ht.block b h1 hne) _).trans (h2 i hi)⟩
theorem bytes_part {W : World} {b off p m : Nat} {B M : List Int} (h : BytesAt W (some ⟨b, off, none⟩) B) (e : M = (B.drop p).take m) (hm : p + m ≤ B.length) : BytesAt W (some ⟨b, off + p, none⟩) M := fun hp => by
  subst e
  rw [List.length_take, List.length_drop] at hp
  obtain ⟨b', off', e, h1, h2⟩ := h (by omega)
  injection e with e; injection e with e1 e2
  subst e1 e2
  refine ⟨b, off + p, rfl, h1, fun i hi => ?_⟩
  rw [List.length_take, List.length_drop] at hi
  rw [Nat.add_assoc, h2 (p + i) (by omega), List.getElem?_take, if_pos (by omega), List.getElem?_drop]
theorem SecW.drewN {w : World} {g b off n p : Nat} {last : Int} {B : List Int} {gs gf : Nat} {W : World} (h : SecW w g b off n p last B gs gf W) (m : Nat) : SecW w g b off n p last B gs gf (W.drewN m) :=
  ⟨h.rd.drewN m, h.sec.drewN m, h.flt.imp fun _ h1 => h1.drewN m, h.byt, h.touch.trans (Touch.drewN W m), h.ne⟩
theorem SecW.up {w : World} {g b off n p : Nat} {last : Int} {B : List Int} {gs gf : Nat} {W W' : World} (h : SecW w g b off n p last B gs gf W) (hb : Below W.heap.size W W') : SecW w g b off n p last B gs gf W' :=
  ⟨h.rd.up hb, h.sec.up hb, h.flt.imp fun _ h1 => h1.up hb, h.byt.below hb, h.touch.trans (Touch.of_below hb), h.ne⟩
theorem SecW.at_sec {w : World} {g b off n p : Nat} {last : Int} {B : List Int} {gs gf : Nat} {W W' : World} (h : SecW w g b off n p last B gs gf W) (ht : Touch gs W W') (hf : FB W' gs 77 3 (secF Sc.zero)) : SecW w g b off n p last B gs gf W' := by
  obtain ⟨n1, n2, n3, n4, n5, n6, n7, n8⟩ := h.ne
  exact ⟨h.rd.touch ht n1, hf, h.flt.imp fun _ h1 => h1.touch ht (fun e => n3 e.symm), bytes_touch h.byt ht n4, touch_then h.touch (ht.below n7 h.touch.size), h.ne⟩
theorem SecW.at_flt {w : World} {g b off n p : Nat} {last : Int} {B : List Int} {gs gf : Nat} {W W' : World} {f : Nat → Value} (h : SecW w g b off n p last B gs gf W) (ht : Touch gf W W') (hf : FB W' gf 67 2 f) : SecW w g b off n p last B gs gf W' := by
  obtain ⟨n1, n2, n3, n4, n5, n6, n7, n8⟩ := h.ne
  exact ⟨h.rd.touch ht n2, h.sec.touch ht n3, ⟨f, hf⟩, bytes_touch h.byt ht n5, touch_then h.touch (ht.below n8 h.touch.size), h.ne⟩
set_option maxHeartbeats 4000000 in
theorem section_any (w : World) (g b off n p : Nat) (last : Int) (B : List Int) (hR : FB w g 71 3 (rdF (some ⟨b, off, none⟩) n p last)) (hB : B.length = n) (hn : n ≤ 131072) (hp : p < n) (hY : Bytes B) (hA : BytesAt w (some ⟨b, off, none⟩) B) (hgb : b ≠ g) :
    Calls Try.prog 48 #[.pointer (some ⟨g, 0, none⟩)] w (SecEnd w g b off n p last B) := by
  have HR := Lib.hid hR
  have HL := Lib.hid hB
  have HY := Lib.hid hY
  have HA := Lib.hid hA
  clear hR hB hY hA
  obtain ⟨kd, hkd, hdr⟩ := drop_cons (l := B) (j := p) (by have := HL.out; omega)
  have hkB := HY.out kd (List.mem_of_getElem? hkd)
  have HKB := Lib.hid hkB
  obtain ⟨t, ht⟩ : ∃ t, t = B.drop (p + 1) := ⟨_, rfl⟩
  rw [← ht] at hdr
  have HTL := Lib.hid (show t.length + (p + 1) = n by rw [ht, List.length_drop]; have := HL.out; omega)
  have HT := Lib.hid ht
  have HTY := Lib.hid (show Bytes t by rw [ht]; exact HY.out.drop _)
  have HE := Lib.hid (show secR last (B.drop p) = secC last kd t by rw [hdr]; rfl)
  clear ht hdr
  unfold SecEnd
  rw [HE.out]
  obtain ⟨hk0, hk1⟩ := hkB
  go_enter Try.func48, Try.ntmps48
  go_upto_region 1 with (first
    | (refine wpList_alloc_seg rfl 77 rfl 3 (secF Sc.zero) zeroSec ?_; intro w1 h1 hB1 hs1)
    | (refine wpList_alloc_seg rfl 67 rfl 2 (ftF 0 0) zeroFt ?_; intro w2 h2 hB2 hs2))
  obtain ⟨gs, hgs⟩ : ∃ gs, gs = w.heap.size := ⟨_, rfl⟩
  obtain ⟨gf, hgf⟩ : ∃ gf, gf = w1.heap.size := ⟨_, rfl⟩
  rw [← hgs] at h1 ⊢
  rw [← hgf] at h2 ⊢
  have hb2 : Below w.heap.size w w2 := hB1.trans (hB2.mono hB1.size)
  have HS2 := Lib.hid (h1.up hB2)
  have HF2 := Lib.hid h2
  have HR2 := Lib.hid (HR.out.up hb2)
  have HA2 := Lib.hid (HA.out.below hb2)
  have HT2 := Lib.hid (Touch.of_below (g := g) hb2)
  have HNE := Lib.hid (show g ≠ gs ∧ g ≠ gf ∧ gs ≠ gf ∧ b ≠ gs ∧ b ≠ gf ∧ b ≠ g ∧ w.heap.size ≤ gs ∧ w.heap.size ≤ gf by
    have h3 := HR.out.lt
    obtain ⟨b', off', e, h4, _⟩ := HA.out (by have := HL.out; omega)
    injection e with e; injection e with e1
    exact ⟨by omega, by omega, by omega, by omega, by omega, hgb, by omega, by omega⟩)
  have x0 : w2.cell? ⟨g, 0, none⟩ = some (.slice (some ⟨b, off, none⟩) n n) := HR2.out.cell 0 (by decide)
  have x1 : w2.cell? ⟨g, 1, none⟩ = some (.int .i64 p) := HR2.out.cell 1 (by decide)
  have x2 : w2.cell? ⟨g, 2, none⟩ = some (.int .i64 last) := HR2.out.cell 2 (by decide)
  have x3 : w2.cell? ⟨b, off + p, none⟩ = some (.int .u8 kd) := by
    obtain ⟨b', off', e, h4, h5⟩ := HA2.out (by have := HL.out; omega)
    injection e with e; injection e with e1 e2
    subst e1 e2
    rw [h5 p (by have := HL.out; omega), hkd]; rfl
  have HW2 := Lib.hid (show SecW w g b off n p last B gs gf w2 from ⟨HR2.out, HS2.out, ⟨_, HF2.out⟩, HA2.out, HT2.out, HNE.out⟩)
  clear h1 hB1 hs1 h2 hB2 hs2 hgs hgf hb2 HR HA hkd HS2 HF2 HR2 HA2 HT2
  have hp' : (p : Int) < n := by omega
  go_quiet (fail)
  rw [show IntKind.i64.wrap kd = kd from IntWalk.i64_in _ (by omega)]
  obtain ⟨w3, hw3⟩ : ∃ w3, w3 = w2.drewN nq := ⟨_, rfl⟩
  have HW3 := Lib.hid (show SecW w g b off n p last B gs gf w3 by rw [hw3]; exact HW2.out.drewN nq)
  rw [← hw3]
  clear hw3 HW2 x0 x1 x2 x3
  have x2 : w3.cell? ⟨g, 2, none⟩ = some (.int .i64 last) := HW3.out.rd.cell 2 (by decide)
  have HFO := Lib.hid (follows_any last kd)
  cases hf : follows last kd
  · rw [hf] at HFO
    have HC := Lib.hid (show secC last kd t = .error (t.length + 1, 120) by unfold secC; rw [if_pos hf])
    clear hf
    go_upto_region 3 with (go_at_call 55; refine (HFO.out w3).mono ?_; rintro e u ⟨rfl, rfl⟩)
    clear x2
    refine wp_region_held_drew (S := fun W => SecW w g b off n p last B gs gf W) (by kernel_rfl) (HW3.out.drewN 1) (fun hHeld => ?_)
    refine wpAnyH_take (i := 0) (oi := { dst := some 27, op := Op.build 77 #[], type := 77, pos := "read.go:58", after := #[], guard := none }) (v := .agg #[.int .i64 0, .int .i64 0, .slice none 0 0]) rfl (by kernel_rfl) (by kernel_rfl) (by kernel_rfl) (fun _ _ _ h => h) (Or.inl ⟨by rfl, ?_⟩) (by assumption) ?_
    · intro w hSw
      go_simp
    try simp only [Act.put, List.setIfInBounds_toArray, List.set_cons_zero, List.set_cons_succ]
    refine wpAnyH_take (i := 1) (oi := { dst := some 28, op := Op.move (Operand.tmp 0), type := 87, pos := "read.go:58", after := #[{ on := 6, ground := Ground.gcOnly Departure.lateStores }], guard := none }) (v := .pointer (some ⟨g, 0, none⟩)) rfl (by kernel_rfl) (by kernel_rfl) (by kernel_rfl) (fun _ _ _ h => h) (Or.inl ⟨by rfl, ?_⟩) (by assumption) ?_
    · intro w hSw
      go_simp
    try simp only [Act.put, List.setIfInBounds_toArray, List.set_cons_zero, List.set_cons_succ]
    refine wpAnyH_take (i := 2) (oi := { dst := some 29, op := Op.nilCheck (Operand.tmp 28), type := 0, pos := "read.go:58", after := #[{ on := 1, ground := Ground.data }, { on := 6, ground := Ground.gcOnly Departure.lateStores }], guard := none }) (v := .pointer (some ⟨g, 0, none⟩)) rfl (by kernel_rfl) (by kernel_rfl) (by kernel_rfl) (fun _ _ _ h => h) (Or.inl ⟨by rfl, ?_⟩) (by assumption) ?_
    · intro w hSw
      go_simp
    try simp only [Act.put, List.setIfInBounds_toArray, List.set_cons_zero, List.set_cons_succ]
    refine wpAnyH_take (i := 3) (oi := { dst := some 30, op := Op.fieldAddr 71 (Operand.tmp 29) 1, type := 0, pos := "read.go:58", after := #[{ on := 2, ground := Ground.data }, { on := 6, ground := Ground.gcOnly Departure.lateStores }], guard := none }) (v := .pointer (some ⟨g, 1, none⟩)) rfl (by kernel_rfl) (by kernel_rfl) (by kernel_rfl) (fun _ _ _ h => h) (Or.inl ⟨by rfl, ?_⟩) (by assumption) ?_
    · intro w hSw
      go_simp
    try simp only [Act.put, List.setIfInBounds_toArray, List.set_cons_zero, List.set_cons_succ]
    refine wpAnyH_take (i := 4) (oi := { dst := some 31, op := Op.load 3 (Operand.tmp 30), type := 3, pos := "read.go:58", after := #[{ on := 3, ground := Ground.data }, { on := 6, ground := Ground.gcOnly Departure.lateStores }], guard := none }) (v := .int .i64 p) rfl (by kernel_rfl) (by kernel_rfl) (by kernel_rfl) (fun _ _ _ h => h) (Or.inl ⟨by rfl, ?_⟩) (by assumption) ?_
    · intro w hSw
      have y1 : w.cell? ⟨g, 1, none⟩ = some (.int .i64 p) := hSw.rd.cell 1 (by decide)
      go_simp
    try simp only [Act.put, List.setIfInBounds_toArray, List.set_cons_zero, List.set_cons_succ]
    refine wpAnyH_take (i := 5) (oi := { dst := some 32, op := Op.build 67 #[(0, Operand.tmp 31), (1, Operand.const (Value.int IntKind.i64 120))], type := 67, pos := "read.go:58", after := #[{ on := 4, ground := Ground.data }, { on := 6, ground := Ground.gcOnly Departure.lateStores }], guard := none }) (v := .agg #[.int .i64 p, .int .i64 120]) rfl (by kernel_rfl) (by kernel_rfl) (by kernel_rfl) (fun _ _ _ h => h) (Or.inl ⟨by rfl, ?_⟩) (by assumption) ?_
    · intro w hSw
      go_simp
    try simp only [Act.put, List.setIfInBounds_toArray, List.set_cons_zero, List.set_cons_succ]
    refine wpAnyH_ready (rs := [6]) (by kernel_rfl) (by simp) ?_
    refine AllReadyH.cons rfl ?_ ?_
    rotate_left
    · exact AllReadyH.nil
    intro K hK
    refine step_store_seg (by rfl) 77 _ _ rfl gs 0 77 3 3 _ (secF Sc.zero) rfl rfl hHeld.sec (by omega) sizeSec (secF_one _) ?_
    intro w6 h6 hT6 hs6
    have HS6 := Lib.hid (hHeld.at_sec hT6 (h6.congr fun q hq => by unfold updR; rw [if_pos (by omega), Nat.sub_zero]))
    clear h6 hT6 hs6 hHeld
    refine hK.out _ _ HS6.out (fun hHeld => ?_)
    clear hK K
    try simp only [Act.put, List.setIfInBounds_toArray, List.set_cons_zero, List.set_cons_succ]
    clear hHeld
    refine wpAnyH_ready (rs := [7]) (by kernel_rfl) (by simp) ?_
    refine AllReadyH.cons rfl ?_ ?_
    rotate_left
    · exact AllReadyH.nil
    intro K hK
    obtain ⟨fo, hfo⟩ := HS6.out.flt
    refine step_store_seg (by rfl) 67 _ _ rfl gf 0 67 2 2 fo (ftF ((p : Int)) (120)) rfl rfl hfo (by omega) sizeFt (ftF_one _ _) ?_
    intro w7 h7 hT7 hs7
    have H7 := Lib.hid (show FB w7 gf 67 2 (ftF ((p : Int)) (120)) from h7.congr fun q hq => by unfold updR; rw [if_pos (by omega), Nat.sub_zero])
    have HS7 := Lib.hid (HS6.out.at_flt hT7 H7.out)
    clear h7 hT7 hs7 HS6 hfo
    refine hK.out _ _ HS7.out (fun hHeld => ?_)
    clear hK K
    try simp only [Act.put, List.setIfInBounds_toArray, List.set_cons_zero, List.set_cons_succ]
    clear hHeld
    refine wpAnyH_done (by kernel_rfl) ?_ _
    go_wp2_with fail
    refine bodyPost_ret (result_cc rfl _ _ gs gf _ _ 3 2 _ _ _ _ rfl HS7.out.sec Try.underlying77 rfl sizeSec rfl H7.out Try.underlying67 rfl sizeFt) rfl ⟨HS7.out.touch, ?_⟩
    rw [HC.out]
    exact ⟨by rw [show ((n - (t.length + 1) : Nat) : Int) = (p : Int) from by have := HTL.out; omega], HS7.out.rd⟩
  · rw [hf] at HFO
    have HCF := Lib.hid (show secC last kd t = (if t.length < 3 then .error (0, 120) else if uncounted kd (num (t.take 3)) ≠ 0 then .error (t.length, uncounted kd (num (t.take 3))) else if (t.drop 3).length < (num (t.take 3)).toNat then .error (0, 120) else .ok ((kd, (t.drop 3).take (num (t.take 3)).toNat), (t.drop 3).drop (num (t.take 3)).toNat)) by
      unfold secC; rw [hf, if_neg (by simp)])
    clear hf
    go_upto_region 4 with (go_at_call 55; refine (HFO.out w3).mono ?_; rintro e u ⟨rfl, rfl⟩)
    have x0 : w3.cell? ⟨g, 0, none⟩ = some (.slice (some ⟨b, off, none⟩) n n) := HW3.out.rd.cell 0 (by decide)
    have x1 : w3.cell? ⟨g, 1, none⟩ = some (.int .i64 p) := HW3.out.rd.cell 1 (by decide)
    clear x2 HFO
    by_cases h3 : t.length < 3
    · have HC := Lib.hid (show secC last kd t = .error (0, 120) by rw [HCF.out, if_pos h3])
      have t3 : decide ((n : Int) < (p : Int) + 4) = true := decide_eq_true (by have := HTL.out; omega)
      clear h3 HCF
      go_upto_region 6 with fail
      go_wp2_with (first
        | (go_at_call 50; refine (short_any w3 g _ n p last HW3.out.rd).mono ?_; rintro e wA ⟨rfl, hBA⟩)
        | (refine wpList_store_all rfl 77 _ _ rfl gs 77 3 _ (secF Sc.zero) rfl rfl (HW3.out.up hBA).sec sizeSec (secF_one _) ?_; intro wB hB hTB hsB; have HSB := Lib.hid ((HW3.out.up hBA).at_sec hTB hB); obtain ⟨fo, hfo⟩ := HSB.out.flt; clear hB hTB hsB)
        | (refine wpList_store_all rfl 67 _ _ rfl gf 67 2 fo (ftF n 120) rfl rfl hfo sizeFt (ftF_one _ _) ?_; intro wC hC hTC hsC))
      have HSC := Lib.hid (HSB.out.at_flt hTC hC)
      refine bodyPost_ret (result_cc rfl _ _ gs gf _ _ 3 2 _ _ _ _ rfl HSC.out.sec Try.underlying77 rfl sizeSec rfl hC Try.underlying67 rfl sizeFt) rfl ⟨HSC.out.touch, ?_⟩
      rw [HC.out]
      exact ⟨rfl, HSC.out.rd⟩
    · have t3 : decide ((n : Int) < (p : Int) + 4) = false := decide_eq_false (by have := HTL.out; omega)
      rw [if_neg h3] at HCF
      have hp4 : (p : Int) + 4 ≤ n := by have := HTL.out; omega
      clear h3
      obtain ⟨cn, hcn⟩ : ∃ cn, cn = num (t.take 3) := ⟨_, rfl⟩
      have hcn0 : 0 ≤ cn := by rw [hcn]; exact num_nn _ (HTY.out.take 3)
      have hcn1 : cn < 16777216 := by
        rw [hcn]
        have := num_lt _ (HTY.out.take 3)
        rw [List.length_take, show min 3 t.length = 3 by have := HTL.out; omega, p256_3] at this
        exact this
      rw [← hcn] at HCF
      have HNU := Lib.hid (fun (W : World) (m : Nat) (hW : W = w3.drewN m) => (number_any W (some ⟨b, off + (p + 1), none⟩) 3 (n - (p + 1)) (t.take 3) (by rw [List.length_take]; have := HTL.out; omega) (by decide) (HTY.out.take 3) (by
        rw [hW]
        refine bytes_part (p := p + 1) (m := 3) HW3.out.byt ?_ (by have := HL.out; have := HTL.out; omega)
        rw [HT.out])).mono fun _ _ h => (⟨h.1, h.2.symm⟩ : _ ∧ _))
      rw [← hcn] at HNU
      clear hcn
      go_upto_region 7 with fail
      have ew : IntKind.i64.wrap ((p : Int) + 1) = (p : Int) + 1 := IntWalk.i64_in _ (by omega)
      have e1 : ((p : Int) + 1).toNat = p + 1 := by omega
      have f1 : (0 : Int) ≤ (p : Int) + 1 := by omega
      have f0 : (0 : Int) ≤ (p : Int) + 4 := by omega
      have f2 : (p : Int) + 1 ≤ (p : Int) + 4 := by omega
      have f5 : ¬ (n = p + 1) := by omega
      have f6 : p + 4 - (p + 1) = 3 := by omega
      have f7 : ((p : Int) + 4).toNat - (p + 1) = 3 := by omega
      go_quiet (exact Calls.quiet_of_same (HNU.out _ _ rfl))
      obtain ⟨w4, hw4⟩ : ∃ w4, w4 = w3.drewN nq := ⟨_, rfl⟩
      have HW4 := Lib.hid (show SecW w g b off n p last B gs gf w4 by rw [hw4]; exact HW3.out.drewN nq)
      rw [← hw4]
      clear hw4 HW3 x0 x1 HNU ew e1 f1 f0 f2 f5 f6 f7 t3
      obtain ⟨m, rfl⟩ : ∃ m : Nat, cn = m := ⟨cn.toNat, by omega⟩
      rw [Int.toNat_natCast] at HCF
      obtain ⟨un, hun⟩ : ∃ un, un = uncounted kd m := ⟨_, rfl⟩
      have HUN := Lib.hid (uncounted_any kd m (by omega))
      rw [← hun] at HUN HCF
      have HUE := Lib.hid hun
      clear hun
      by_cases hu : un = 0
      · have tu : (un != 0) = false := by rw [hu]; rfl
        rw [if_neg (by rw [hu]; simp)] at HCF
        have HM0 := Lib.hid (show m ≠ 0 from fun e => by
          have h5 := HUE.out
          rw [hu, e] at h5
          have h6 : uncounted kd ((0 : Nat) : Int) = 120 := by unfold uncounted; exact if_pos (Or.inl rfl)
          omega)
        clear hu
        go_upto_region 11 with (go_at_call 56; refine (HUN.out w4).mono ?_; rintro e u ⟨rfl, rfl⟩)
        have x0 : w4.cell? ⟨g, 0, none⟩ = some (.slice (some ⟨b, off, none⟩) n n) := HW4.out.rd.cell 0 (by decide)
        clear HUN HUE
        by_cases h4 : (t.drop 3).length < m
        · have HC := Lib.hid (show secC last kd t = .error (0, 120) by rw [HCF.out, if_pos h4])
          have t4 : decide ((n : Int) < (p : Int) + 4 + m) = true := decide_eq_true (by rw [List.length_drop] at h4; have := HTL.out; omega)
          clear h4 HCF
          go_upto_region 13 with fail
          go_wp2_with (first
            | (go_at_call 50; refine (short_any w4 g _ n p last HW4.out.rd).mono ?_; rintro e wA ⟨rfl, hBA⟩)
            | (refine wpList_store_all rfl 77 _ _ rfl gs 77 3 _ (secF Sc.zero) rfl rfl (HW4.out.up hBA).sec sizeSec (secF_one _) ?_; intro wB hB hTB hsB; have HSB := Lib.hid ((HW4.out.up hBA).at_sec hTB hB); obtain ⟨fo, hfo⟩ := HSB.out.flt; clear hB hTB hsB)
            | (refine wpList_store_all rfl 67 _ _ rfl gf 67 2 fo (ftF n 120) rfl rfl hfo sizeFt (ftF_one _ _) ?_; intro wC hC hTC hsC))
          have HSC := Lib.hid (HSB.out.at_flt hTC hC)
          refine bodyPost_ret (result_cc rfl _ _ gs gf _ _ 3 2 _ _ _ _ rfl HSC.out.sec Try.underlying77 rfl sizeSec rfl hC Try.underlying67 rfl sizeFt) rfl ⟨HSC.out.touch, ?_⟩
          rw [HC.out]
          exact ⟨rfl, HSC.out.rd⟩
        · have t4 : decide ((n : Int) < (p : Int) + 4 + m) = false := decide_eq_false (by rw [List.length_drop] at h4; have := HTL.out; omega)
          have HC := Lib.hid (show secC last kd t = .ok ((kd, (t.drop 3).take m), (t.drop 3).drop m) by rw [HCF.out, if_neg h4])
          have hto : p + 4 + m ≤ n := by rw [List.length_drop] at h4; have := HTL.out; omega
          have HCL := Lib.hid (show ((t.drop 3).take m).length = m by rw [List.length_take]; omega)
          have HRL := Lib.hid (show n - ((t.drop 3).drop m).length = p + 4 + m by rw [List.length_drop, List.length_drop]; have := HTL.out; omega)
          have hm0 := HM0.out
          have x1 : w4.cell? ⟨g, 1, none⟩ = some (.int .i64 p) := HW4.out.rd.cell 1 (by decide)
          have x2 : w4.cell? ⟨g, 2, none⟩ = some (.int .i64 last) := HW4.out.rd.cell 2 (by decide)
          have z1 : w4.frozen? ⟨g, 1, none⟩ = false := HW4.out.rd.frozen 1
          have z2 : w4.frozen? ⟨g, 2, none⟩ = false := HW4.out.rd.frozen 2
          clear h4 HCF HM0
          go_upto_region 15 with fail
          obtain ⟨w5, hw5⟩ : ∃ w5, w5 = (w4.setCell ⟨g, 1, none⟩ (.int .i64 ((p : Int) + 4 + m))).setCell ⟨g, 2, none⟩ (.int .i64 kd) := ⟨_, rfl⟩
          have HT5 := Lib.hid (show Touch g w4 w5 by rw [hw5]; exact (Touch.set_ w4 1 _).trans (Touch.set_ _ 2 _))
          have HR5 := Lib.hid (show FB w5 g 71 3 (rdF (some ⟨b, off, none⟩) n (p + 4 + m : Nat) kd) by
            rw [hw5]
            refine ((HW4.out.rd.set_ 1 _).set_ 2 _).congr fun k hk => ?_
            rcases (show k = 0 ∨ k = 1 ∨ k = 2 by omega) with rfl | rfl | rfl
            · rfl
            · show Value.int .i64 ((p : Int) + 4 + m) = .int .i64 ((p + 4 + m : Nat) : Int)
              congr 1
            · rfl)
          have HN4 := HW4.out.ne
          have HS5 := Lib.hid (HW4.out.sec.touch HT5.out (fun e => HN4.1 e.symm))
          obtain ⟨fo, hfo⟩ := HW4.out.flt
          have HF5 := Lib.hid (hfo.touch HT5.out (fun e => HN4.2.1 e.symm))
          have HTT5 := Lib.hid (HW4.out.touch.trans HT5.out)
          rw [← hw5]
          have x0 : w5.cell? ⟨g, 0, none⟩ = some (.slice (some ⟨b, off, none⟩) n n) := HR5.out.cell 0 (by decide)
          have e1 : ((p : Int) + 4).toNat = p + 4 := by omega
          have e2 : ((p : Int) + 4 + m).toNat = p + 4 + m := by omega
          have f0 : (0 : Int) ≤ (p : Int) + 4 := by omega
          have f1 : (p : Int) + 4 ≤ (p : Int) + 4 + m := by omega
          have f2 : (p : Int) + 4 + m ≤ n := by omega
          have f3 : p + 4 + m - (p + 4) = m := by omega
          have f4 : ¬ (p + 4 + m = p + 4) := by omega
          clear hw5 hfo x1 x2 z1 z2 t4
          go_wp2_with (first
            | (refine wpList_store_all rfl 77 _ _ rfl gs 77 3 _ (secF ⟨kd, (p + 4 : Nat), some ⟨b, off + (p + 4), none⟩, m, m, (t.drop 3).take m⟩) rfl rfl HS5.out sizeSec (secF_one _) ?_; intro w6 h6 hT6 hs6; have hf6 := HF5.out.touch hT6 (fun e => HN4.2.2.1 e.symm))
            | (refine wpList_store_all rfl 67 _ _ rfl gf 67 2 _ (ftF 0 0) rfl rfl hf6 sizeFt (ftF_one _ _) ?_; intro w7 h7 hT7 hs7))
          refine bodyPost_ret (result_cc rfl _ _ gs gf _ _ 3 2 _ _ _ _ rfl (h6.touch hT7 HN4.2.2.1) Try.underlying77 rfl sizeSec rfl h7 Try.underlying67 rfl sizeFt) rfl ⟨touch_then (touch_then HTT5.out (hT6.below HN4.2.2.2.2.2.2.1 HTT5.out.size)) (hT7.below HN4.2.2.2.2.2.2.2 (Nat.le_trans HTT5.out.size hT6.size)), ?_⟩
          rw [HC.out]
          refine ⟨by rw [HCL.out], ?_⟩
          rw [HRL.out]
          exact (HR5.out.touch hT6 HN4.1).touch hT7 HN4.2.1
      · have tu : (un != 0) = true := by rw [bne_iff_ne]; exact hu
        rw [if_pos hu] at HCF
        have HC := HCF
        clear hu
        go_upto_region 10 with (go_at_call 56; refine (HUN.out w4).mono ?_; rintro e u ⟨rfl, rfl⟩)
        clear HUN HUE
        refine wp_region_held_drew (S := fun W => SecW w g b off n p last B gs gf W) (by kernel_rfl) (HW4.out.drewN 1) (fun hHeld => ?_)
        refine wpAnyH_take (i := 0) (oi := { dst := some 65, op := Op.build 77 #[], type := 77, pos := "read.go:66", after := #[], guard := none }) (v := .agg #[.int .i64 0, .int .i64 0, .slice none 0 0]) rfl (by kernel_rfl) (by kernel_rfl) (by kernel_rfl) (fun _ _ _ h => h) (Or.inl ⟨by rfl, ?_⟩) (by assumption) ?_
        · intro w hSw
          go_simp
        try simp only [Act.put, List.setIfInBounds_toArray, List.set_cons_zero, List.set_cons_succ]
        refine wpAnyH_take (i := 1) (oi := { dst := some 66, op := Op.move (Operand.tmp 0), type := 87, pos := "read.go:66", after := #[{ on := 8, ground := Ground.gcOnly Departure.lateStores }], guard := none }) (v := .pointer (some ⟨g, 0, none⟩)) rfl (by kernel_rfl) (by kernel_rfl) (by kernel_rfl) (fun _ _ _ h => h) (Or.inl ⟨by rfl, ?_⟩) (by assumption) ?_
        · intro w hSw
          go_simp
        try simp only [Act.put, List.setIfInBounds_toArray, List.set_cons_zero, List.set_cons_succ]
        refine wpAnyH_take (i := 2) (oi := { dst := some 67, op := Op.nilCheck (Operand.tmp 66), type := 0, pos := "read.go:66", after := #[{ on := 1, ground := Ground.data }, { on := 8, ground := Ground.gcOnly Departure.lateStores }], guard := none }) (v := .pointer (some ⟨g, 0, none⟩)) rfl (by kernel_rfl) (by kernel_rfl) (by kernel_rfl) (fun _ _ _ h => h) (Or.inl ⟨by rfl, ?_⟩) (by assumption) ?_
        · intro w hSw
          go_simp
        try simp only [Act.put, List.setIfInBounds_toArray, List.set_cons_zero, List.set_cons_succ]
        refine wpAnyH_take (i := 3) (oi := { dst := some 68, op := Op.fieldAddr 71 (Operand.tmp 67) 1, type := 0, pos := "read.go:66", after := #[{ on := 2, ground := Ground.data }, { on := 8, ground := Ground.gcOnly Departure.lateStores }], guard := none }) (v := .pointer (some ⟨g, 1, none⟩)) rfl (by kernel_rfl) (by kernel_rfl) (by kernel_rfl) (fun _ _ _ h => h) (Or.inl ⟨by rfl, ?_⟩) (by assumption) ?_
        · intro w hSw
          go_simp
        try simp only [Act.put, List.setIfInBounds_toArray, List.set_cons_zero, List.set_cons_succ]
        refine wpAnyH_take (i := 4) (oi := { dst := some 69, op := Op.load 3 (Operand.tmp 68), type := 3, pos := "read.go:66", after := #[{ on := 3, ground := Ground.data }, { on := 8, ground := Ground.gcOnly Departure.lateStores }], guard := none }) (v := .int .i64 p) rfl (by kernel_rfl) (by kernel_rfl) (by kernel_rfl) (fun _ _ _ h => h) (Or.inl ⟨by rfl, ?_⟩) (by assumption) ?_
        · intro w hSw
          have y1 : w.cell? ⟨g, 1, none⟩ = some (.int .i64 p) := hSw.rd.cell 1 (by decide)
          go_simp
        try simp only [Act.put, List.setIfInBounds_toArray, List.set_cons_zero, List.set_cons_succ]
        refine wpAnyH_take (i := 5) (oi := { dst := some 70, op := Op.binOp BinOp.add 3 (Operand.tmp 69) (Operand.const (Value.int IntKind.i64 1)) 3, type := 3, pos := "read.go:66", after := #[{ on := 4, ground := Ground.data }, { on := 8, ground := Ground.gcOnly Departure.lateStores }], guard := none }) (v := .int .i64 ((p : Int) + 1)) rfl (by kernel_rfl) (by kernel_rfl) (by kernel_rfl) (fun _ _ _ h => h) (Or.inl ⟨by rfl, ?_⟩) (by assumption) ?_
        · intro w hSw
          go_simp
          exact IntWalk.i64_in _ (by omega)
        try simp only [Act.put, List.setIfInBounds_toArray, List.set_cons_zero, List.set_cons_succ]
        refine wpAnyH_take (i := 6) (oi := { dst := some 71, op := Op.move (Operand.tmp 7), type := 36, pos := "read.go:66", after := #[{ on := 8, ground := Ground.gcOnly Departure.lateStores }], guard := none }) (v := .int .i64 un) rfl (by kernel_rfl) (by kernel_rfl) (by kernel_rfl) (fun _ _ _ h => h) (Or.inl ⟨by rfl, ?_⟩) (by assumption) ?_
        · intro w hSw
          go_simp
        try simp only [Act.put, List.setIfInBounds_toArray, List.set_cons_zero, List.set_cons_succ]
        refine wpAnyH_take (i := 7) (oi := { dst := some 72, op := Op.build 67 #[(0, Operand.tmp 70), (1, Operand.tmp 71)], type := 67, pos := "read.go:66", after := #[{ on := 5, ground := Ground.data }, { on := 6, ground := Ground.data }, { on := 8, ground := Ground.gcOnly Departure.lateStores }], guard := none }) (v := .agg #[.int .i64 ((p : Int) + 1), .int .i64 un]) rfl (by kernel_rfl) (by kernel_rfl) (by kernel_rfl) (fun _ _ _ h => h) (Or.inl ⟨by rfl, ?_⟩) (by assumption) ?_
        · intro w hSw
          go_simp
        try simp only [Act.put, List.setIfInBounds_toArray, List.set_cons_zero, List.set_cons_succ]
        refine wpAnyH_ready (rs := [8]) (by kernel_rfl) (by simp) ?_
        refine AllReadyH.cons rfl ?_ ?_
        rotate_left
        · exact AllReadyH.nil
        intro K hK
        refine step_store_seg (by rfl) 77 _ _ rfl gs 0 77 3 3 _ (secF Sc.zero) rfl rfl hHeld.sec (by omega) sizeSec (secF_one _) ?_
        intro w6 h6 hT6 hs6
        have HS6 := Lib.hid (hHeld.at_sec hT6 (h6.congr fun q hq => by unfold updR; rw [if_pos (by omega), Nat.sub_zero]))
        clear h6 hT6 hs6 hHeld
        refine hK.out _ _ HS6.out (fun hHeld => ?_)
        clear hK K
        try simp only [Act.put, List.setIfInBounds_toArray, List.set_cons_zero, List.set_cons_succ]
        clear hHeld
        refine wpAnyH_ready (rs := [9]) (by kernel_rfl) (by simp) ?_
        refine AllReadyH.cons rfl ?_ ?_
        rotate_left
        · exact AllReadyH.nil
        intro K hK
        obtain ⟨fo, hfo⟩ := HS6.out.flt
        refine step_store_seg (by rfl) 67 _ _ rfl gf 0 67 2 2 fo (ftF ((p : Int) + 1) (un)) rfl rfl hfo (by omega) sizeFt (ftF_one _ _) ?_
        intro w7 h7 hT7 hs7
        have H7 := Lib.hid (show FB w7 gf 67 2 (ftF ((p : Int) + 1) (un)) from h7.congr fun q hq => by unfold updR; rw [if_pos (by omega), Nat.sub_zero])
        have HS7 := Lib.hid (HS6.out.at_flt hT7 H7.out)
        clear h7 hT7 hs7 HS6 hfo
        refine hK.out _ _ HS7.out (fun hHeld => ?_)
        clear hK K
        try simp only [Act.put, List.setIfInBounds_toArray, List.set_cons_zero, List.set_cons_succ]
        clear hHeld
        refine wpAnyH_done (by kernel_rfl) ?_ _
        clear tu hcn0 hcn1
        go_wp2_with fail
        refine bodyPost_ret (result_cc rfl _ _ gs gf _ _ 3 2 _ _ _ _ rfl HS7.out.sec Try.underlying77 rfl sizeSec rfl H7.out Try.underlying67 rfl sizeFt) rfl ⟨HS7.out.touch, ?_⟩
        rw [HC.out]
        exact ⟨by rw [show ((n - (t.length) : Nat) : Int) = (p : Int) + 1 from by have := HTL.out; omega], HS7.out.rd⟩
end Go.Proofs.Ytkfcfoidaalnlaa.Pak
