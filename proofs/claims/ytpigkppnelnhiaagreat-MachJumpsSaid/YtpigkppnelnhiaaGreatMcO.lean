/- Package mach: New. -/
import Derived.Test.YtpigkppnelnhiaaGreatMcQ
import Derived.Test.YtpigkppnelnhiaaGreatMcD
namespace Go.Proofs.YtpigkppnelnhiaaGreat
open Go.ChangeShapes Go.WideShapes Go.ChangeAt Go.RowKit
open Cod Bits
set_option linter.unusedVariables false
set_option linter.unusedSimpArgs false
set_option maxRecDepth 100000
theorem ownI_of_blk {w : World} {b base n : Nat} {L : List Int} (h : IntBlk w b L) (hL : L.length = n) (hb : base ≤ b) (hn : n ≤ 1048576) : OwnI w base (.slice (some ⟨b, 0, none⟩) n n) L := by
  subst hL
  refine ⟨by simp, .inr ⟨b, L.length, _, rfl, hb, h, Nat.le_refl _, by unfold maxLen; omega, by simp, by simp [List.take_of_length_le]⟩⟩
theorem reg2_at {w : World} {base g : Nat} {P : Pg} {S : St} {vc vk vg vn : Value} (h : Mem w base g P S vc vk vg vn) : w.cell? ⟨g, 430, none⟩ = some (.int .i64 (S.regs 2).k) ∧ w.cell? ⟨g, 431, none⟩ = some (.int .i64 (S.regs 2).t) ∧ w.cell? ⟨g, 432, none⟩ = some (.int .i64 (S.regs 2).r) ∧ w.cell? ⟨g, 433, none⟩ = some (.int .i64 (S.regs 2).x) ∧
    w.frozen? ⟨g, 430, none⟩ = false ∧ w.frozen? ⟨g, 431, none⟩ = false ∧ w.frozen? ⟨g, 432, none⟩ = false ∧ w.frozen? ⟨g, 433, none⟩ = false := by
  obtain ⟨a, b, c, d⟩ := h.reg 2 (by decide)
  exact ⟨a, b, c, d, h.fb.frozen 430, h.fb.frozen 431, h.fb.frozen 432, h.fb.frozen 433⟩
theorem exec_build {P : Program} {o : Oper} {a : Act} (t : TypeId) (parts : Array (Nat × Operand)) (ho : o.op = .build t parts) (ps : List (Nat × Value)) (hps : (parts.map fun (i, x) => (i, a.eval x)).toList = ps) (cells : Array Value) (hc : P.built t ps = some cells) (w : World) : (execOp a.eval o).run P w = .ok (.value (.agg cells)) w := by
  subst hps
  unfold execOp
  simp only [ho, Sem.run_bind, run_build w t _ cells hc, Result.andThen_ok]
  rfl
theorem run_box_agg {P : Program} (w : World) (t : TypeId) (cs : Array Value) : (Instr.box t (.agg cs)).run P w = .ok (.pointer (some ⟨w.heap.size, 0, none⟩)) (w.alloc (.cells cs t)) := by
  simp [Instr.box, newVar, newRow, Value.cells, go_sem]
theorem wp_box_agg {P : Program} {o : Oper} {a : Act} {w : World} {K : Act → World → Prop} {Q : Exit → Act → World → Prop} (t : TypeId) (x : Operand) (ho : o.op = .box t x) (cs : Array Value) (hx : a.eval x = .agg cs)
    (h : K (a.put o.dst (.pointer (some ⟨w.heap.size, 0, none⟩))) (w.alloc (.cells cs t))) : o.wp P a w K Q := by
  unfold Oper.wp execOp
  simp only [ho, hx, Sem.run_bind, run_box_agg w t cs, Result.andThen_ok, Sem.run_pure]
  exact h
set_option maxHeartbeats 2000000 in
theorem new_yes (w : World) (lo hi : Int) (ad : Addr) (c : Nat) (L : List Ins) (B : Option Addr) (d : Nat) (X : List Int) (hn : L.length ≤ 4096) (h1 : 1 ≤ L.length) (hC : CodeAt w (some ad) L) (ho : ∀ i ∈ L, i.op ≠ 21) (hlo : 0 ≤ lo ∧ lo ≤ hi ∧ hi ≤ 65535)
    (hk : (checkL L 0).2 = 0) (hX : X.length ≤ 1048576) (hB : BytesAt w B X) (hr : B = none → d = 0 ∧ X.length = 0) (hf : lo ≤ X.length ∧ (X.length : Int) ≤ hi) :
    Calls Tryz.prog 6 #[.agg #[.int .i64 lo, .int .i64 hi, .slice none 0 0, .slice none 0 0, .slice (some ad) L.length c], .agg #[.slice B X.length d, .slice none 0 0]] w fun e w' => ∃ g, e = .returned (.tuple #[.pointer (some ⟨g, 0, none⟩), .int .i64 0]) ∧ MAt w' w.heap.size g ⟨L, goalsL L⟩ (startSt X) ∧ Below w.heap.size w w' := by
  have hP0 := (Blk.new w 26 #[.int .i64 lo, .int .i64 hi, .slice none 0 0, .slice none 0 0, .slice (some ad) L.length c]).alloc (.cells #[.slice B X.length d, .slice none 0 0] 29)
  have hI0 := blk_new2 w (.cells #[.int .i64 lo, .int .i64 hi, .slice none 0 0, .slice none 0 0, .slice (some ad) L.length c] 26) 29 #[.slice B X.length d, .slice none 0 0]
  have hB0 := box2 w (.cells #[.int .i64 lo, .int .i64 hi, .slice none 0 0, .slice none 0 0, .slice (some ad) L.length c] 26) (.cells #[.slice B X.length d, .slice none 0 0] 29)
  have hc0 := hC.below hB0
  have hx0 := hB.below hB0
  have ht : (!(decide ((X.length : Int) < lo) || decide (hi < (X.length : Int)))) = true := by simp; omega
  clear hC hB
  go_enter Tryz.func6, Tryz.ntmps6
  go_upto_region 1 with (fail)
  generalize ((w.alloc (.cells #[.int .i64 lo, .int .i64 hi, .slice none 0 0, .slice none 0 0, .slice (some ad) L.length c] 26)).alloc (.cells #[.slice B X.length d, .slice none 0 0] 29)) = w0 at *
  have hwm := wellMade_v w0 lo hi (some ad) L.length c L rfl (by omega) h1 hc0 ho hlo
  rw [hk] at hwm
  obtain ⟨⟨a0, a1, a2, a3, a4⟩, -⟩ := hP0.five
  go_wp2_with fail
  go_at_call 19
  refine hwm.mono ?_
  rintro e w1 ⟨rfl, hB1⟩
  clear a0 a1 a2 a3 a4 hwm
  have hP1 := hP0.up hB1
  have hI1 := hI0.up hB1
  have hc1 := hc0.below hB1
  have hx1 := hx0.below hB1
  have hB1' := hB0.trans (hB1.mono hB0.size)
  clear hP0 hI0 hc0 hx0 hB0 hB1
  obtain ⟨⟨a0, a1, a2, a3, a4⟩, -⟩ := hP1.five
  have i0 : w1.cell? ⟨w.heap.size + 1, 0, none⟩ = some (.slice B X.length d) := hI1.cell 0
  have i1 : w1.cell? ⟨w.heap.size + 1, 1, none⟩ = some (.slice none 0 0) := hI1.cell 1
  go_wp2_with fail
  go_at_call 20
  refine (fits_v w1 lo hi _ _ _ _ _ _ true ht).mono ?_
  rintro e w2 ⟨rfl, hB2⟩
  clear a0 a1 a2 a3 a4 i0 i1 ht
  have hP2 := hP1.up hB2
  have hI2 := hI1.up hB2
  have hc2 := hc1.below hB2
  have hx2 := hx1.below hB2
  have hB2' := hB1'.trans (hB2.mono hB1'.size)
  clear hP1 hI1 hc1 hx1 hB1' hB2
  go_upto_region 5 with (fail)
  have HP2 := Lib.hid hP2
  have HI2 := Lib.hid hI2
  have HB2 := Lib.hid (bdrw hB2')
  have HBG := Lib.hid (begun_v w2.drew lo hi (some ad) L.length c B _ d X rfl hX hx2 hr)
  have HKC := Lib.hid (fun wz (hz : Below w2.drew.heap.size w2.drew wz) => cloneK_v wz ad L.length c L rfl (by omega) (CodeAt.below (w := w2.drew) hc2 hz))
  have HGO := Lib.hid (fun wz (hz : Below w2.drew.heap.size w2.drew wz) => goals_v wz (some ad) L.length c L rfl hn (CodeAt.below (w := w2.drew) hc2 hz))
  have hbm := built_mach
  have hS : ∀ wz, Below w2.drew.heap.size w2.drew wz → wz.cell? ⟨w.heap.size, 0, none⟩ = some (.int .i64 lo) ∧ wz.cell? ⟨w.heap.size, 1, none⟩ = some (.int .i64 hi) ∧ wz.cell? ⟨w.heap.size, 2, none⟩ = some (.slice none 0 0) ∧ wz.cell? ⟨w.heap.size, 3, none⟩ = some (.slice none 0 0) ∧ wz.cell? ⟨w.heap.size, 4, none⟩ = some (.slice (some ad) L.length c) ∧ wz.cell? ⟨w.heap.size + 1, 0, none⟩ = some (.slice B X.length d) ∧ wz.cell? ⟨w.heap.size + 1, 1, none⟩ = some (.slice none 0 0) := fun wz hz =>
    ⟨(HP2.out.drew.up hz).cell 0, (HP2.out.drew.up hz).cell 1, (HP2.out.drew.up hz).cell 2, (HP2.out.drew.up hz).cell 3, (HP2.out.drew.up hz).cell 4, (HI2.out.drew.up hz).cell 0, (HI2.out.drew.up hz).cell 1⟩
  have HS := Lib.hid hS
  clear hS hP2 hI2 hB2' hx2 hc2 hr hf hk hlo ho
  refine wp_region_held_drew (S := (fun wz => wz.cell? ⟨w.heap.size, 0, none⟩ = some (.int .i64 lo) ∧ wz.cell? ⟨w.heap.size, 1, none⟩ = some (.int .i64 hi) ∧ wz.cell? ⟨w.heap.size, 2, none⟩ = some (.slice none 0 0) ∧ wz.cell? ⟨w.heap.size, 3, none⟩ = some (.slice none 0 0) ∧ wz.cell? ⟨w.heap.size, 4, none⟩ = some (.slice (some ad) L.length c) ∧ wz.cell? ⟨w.heap.size + 1, 0, none⟩ = some (.slice B X.length d) ∧ wz.cell? ⟨w.heap.size + 1, 1, none⟩ = some (.slice none 0 0))) (by kernel_rfl) (HS.out _ (Below.refl _ _)) (fun hHeld => ?_)
  refine wpAnyH_take (i := 0) (oi := { dst := some 14, op := Op.load 26 (Operand.tmp 2), type := 26, pos := "mach.go:31", after := #[], guard := none }) (v := .agg #[.int .i64 lo, .int .i64 hi, .slice none 0 0, .slice none 0 0, .slice (some ad) L.length c]) rfl (by kernel_rfl) (by kernel_rfl) (by kernel_rfl) (fun _ _ _ h => h) (Or.inl ⟨by rfl, ?_⟩) (by assumption) ?_
  · intro wq hSw
    obtain ⟨s0, s1, s2, s3, s4, s5, s6⟩ := hSw
    go_simp
  try simp only [Act.put, List.setIfInBounds_toArray, List.set_cons_zero, List.set_cons_succ]
  refine wpAnyH_take (i := 1) (oi := { dst := some 15, op := Op.load 29 (Operand.tmp 3), type := 29, pos := "mach.go:31", after := #[], guard := none }) (v := .agg #[.slice B X.length d, .slice none 0 0]) rfl (by kernel_rfl) (by kernel_rfl) (by kernel_rfl) (fun _ _ _ h => h) (Or.inl ⟨by rfl, ?_⟩) (by assumption) ?_
  · intro wq hSw
    obtain ⟨s0, s1, s2, s3, s4, s5, s6⟩ := hSw
    go_simp
  try simp only [Act.put, List.setIfInBounds_toArray, List.set_cons_zero, List.set_cons_succ]
  refine wpAnyH_take (i := 3) (oi := { dst := some 17, op := Op.fieldAddr 26 (Operand.tmp 2) 4, type := 0, pos := "mach.go:31", after := #[], guard := none }) (v := .pointer (some ⟨w.heap.size, 4, none⟩)) rfl (by kernel_rfl) (by kernel_rfl) (by kernel_rfl) (fun _ _ _ h => h) (Or.inl ⟨by rfl, ?_⟩) (by assumption) ?_
  · intro wq hSw
    obtain ⟨s0, s1, s2, s3, s4, s5, s6⟩ := hSw
    go_simp
  try simp only [Act.put, List.setIfInBounds_toArray, List.set_cons_zero, List.set_cons_succ]
  refine wpAnyH_take (i := 4) (oi := { dst := some 18, op := Op.load 24 (Operand.tmp 17), type := 24, pos := "mach.go:31", after := #[{ on := 3, ground := Ground.data }], guard := none }) (v := .slice (some ad) L.length c) rfl (by kernel_rfl) (by kernel_rfl) (by kernel_rfl) (fun _ _ _ h => h) (Or.inl ⟨by rfl, ?_⟩) (by assumption) ?_
  · intro wq hSw
    obtain ⟨s0, s1, s2, s3, s4, s5, s6⟩ := hSw
    go_simp
  try simp only [Act.put, List.setIfInBounds_toArray, List.set_cons_zero, List.set_cons_succ]
  refine wpAnyH_take (i := 6) (oi := { dst := some 20, op := Op.fieldAddr 26 (Operand.tmp 2) 4, type := 0, pos := "mach.go:31", after := #[], guard := none }) (v := .pointer (some ⟨w.heap.size, 4, none⟩)) rfl (by kernel_rfl) (by kernel_rfl) (by kernel_rfl) (fun _ _ _ h => h) (Or.inl ⟨by rfl, ?_⟩) (by assumption) ?_
  · intro wq hSw
    obtain ⟨s0, s1, s2, s3, s4, s5, s6⟩ := hSw
    go_simp
  try simp only [Act.put, List.setIfInBounds_toArray, List.set_cons_zero, List.set_cons_succ]
  refine wpAnyH_take (i := 7) (oi := { dst := some 21, op := Op.load 24 (Operand.tmp 20), type := 24, pos := "mach.go:31", after := #[{ on := 6, ground := Ground.data }], guard := none }) (v := .slice (some ad) L.length c) rfl (by kernel_rfl) (by kernel_rfl) (by kernel_rfl) (fun _ _ _ h => h) (Or.inl ⟨by rfl, ?_⟩) (by assumption) ?_
  · intro wq hSw
    obtain ⟨s0, s1, s2, s3, s4, s5, s6⟩ := hSw
    go_simp
  try simp only [Act.put, List.setIfInBounds_toArray, List.set_cons_zero, List.set_cons_succ]
  refine wpAnyH_ready (rs := [2]) (by kernel_rfl) (by simp) ?_
  refine AllReadyH.cons (o := { dst := some 16, op := Op.call { callee := Callee.value (Operand.func 21), args := #[Operand.tmp 14, Operand.tmp 15], argTypes := #[26, 29] }, type := 67, pos := "mach.go:32", after := #[{ on := 0, ground := Ground.data }, { on := 1, ground := Ground.data }], guard := none }) rfl (fun K hK => ?_) ?_
  rotate_left
  · exact AllReadyH.nil
  go_simp
  go_at_call 21
  refine HBG.out.mono ?_
  rintro e y3 ⟨v3, he3, hv3, hB3⟩
  obtain ⟨A3, c3, rfl⟩ := owns_slice hv3
  obtain ⟨MV, hMV⟩ : ∃ MV, MV = Value.agg (arr 420 (mem0 (.slice A3 X.length c3))) := ⟨_, rfl⟩
  rw [← hMV] at he3
  have HMV := Lib.hid hMV
  clear hMV
  subst he3
  refine hK.out _ _ ?_ (fun hHeld => ?_)
  · exact HS.out _ hB3
  clear hK K
  try simp only [Act.put, List.setIfInBounds_toArray, List.set_cons_zero, List.set_cons_succ]
  refine wpAnyH_ready (rs := [5]) (by kernel_rfl) (by simp) ?_
  refine AllReadyH.cons (o := { dst := some 19, op := Op.call { callee := Callee.value (Operand.func 22), args := #[Operand.tmp 18], argTypes := #[24] }, type := 24, pos := "mach.go:33", after := #[{ on := 4, ground := Ground.data }, { on := 2, ground := Ground.chain }], guard := none }) rfl (fun K hK => ?_) ?_
  rotate_left
  · exact AllReadyH.nil
  go_simp
  go_at_call 22
  refine (HKC.out _ hB3).mono ?_
  rintro e y4 ⟨v4, rfl, hv4, hB4'⟩
  have hB4 := hB3.trans (hB4'.mono hB3.size)
  obtain ⟨A4, c4, rfl⟩ := owns_slice hv4
  refine hK.out _ _ ?_ (fun hHeld => ?_)
  · exact HS.out _ hB4
  clear hK K
  try simp only [Act.put, List.setIfInBounds_toArray, List.set_cons_zero, List.set_cons_succ]
  refine wpAnyH_ready (rs := [8]) (by kernel_rfl) (by simp) ?_
  refine AllReadyH.cons (o := { dst := some 22, op := Op.call { callee := Callee.value (Operand.func 23), args := #[Operand.tmp 21], argTypes := #[24] }, type := 37, pos := "mach.go:34", after := #[{ on := 7, ground := Ground.data }, { on := 5, ground := Ground.chain }], guard := none }) rfl (fun K hK => ?_) ?_
  rotate_left
  · exact AllReadyH.nil
  go_simp
  go_at_call 23
  refine (HGO.out _ hB4).mono ?_
  rintro e y5 ⟨gb, rfl, hgb, hgl, hB5'⟩
  have hB5 := hB4.trans (hB5'.mono hB4.size)
  obtain ⟨CV, hCV⟩ : ∃ CV, CV = arr 470 (mC (blankSt X) (.slice A3 X.length c3) (.slice A4 L.length c4) (.slice (some ⟨gb, 0, none⟩) L.length L.length) (.slice none 0 0)) := ⟨_, rfl⟩
  have hcc : Tryz.prog.built 72 [(0, MV), (1, .slice A4 L.length c4), (2, .slice (some ⟨gb, 0, none⟩) L.length L.length)] = some CV := by rw [HMV.out, hCV]; exact built_mach _ _ _ _ _ _ _ _ _ X
  have HCV := Lib.hid hCV
  clear hCV
  refine hK.out _ _ ?_ (fun hHeld => ?_)
  · exact HS.out _ hB5
  clear hK K
  try simp only [Act.put, List.setIfInBounds_toArray, List.set_cons_zero, List.set_cons_succ]
  refine wpAnyH_take (i := 9) (oi := { dst := some 23, op := Op.build 72 #[(0, Operand.tmp 16), (1, Operand.tmp 19), (2, Operand.tmp 22)], type := 72, pos := "mach.go:31", after := #[{ on := 2, ground := Ground.data }, { on := 5, ground := Ground.data }, { on := 8, ground := Ground.data }], guard := none }) (v := .agg CV) rfl (by kernel_rfl) (by kernel_rfl) (by kernel_rfl) (fun _ _ _ h => h) (Or.inl ⟨by rfl, ?_⟩) (by assumption) ?_
  · intro wq hSw
    exact exec_build 72 _ rfl _ (by simp [Act.eval]) _ hcc _
  try simp only [Act.put, List.setIfInBounds_toArray, List.set_cons_zero, List.set_cons_succ]
  refine wpAnyH_ready (rs := [10]) (by kernel_rfl) (by simp) ?_
  refine AllReadyH.cons (o := { dst := some 24, op := Op.box 72 (Operand.tmp 23), type := 31, pos := "mach.go:31", after := #[{ on := 9, ground := Ground.data }], guard := none }) rfl (fun K hK => ?_) ?_
  rotate_left
  · exact AllReadyH.nil
  refine wp_box_agg 72 _ rfl CV rfl ?_
  refine hK.out _ _ ?_ (fun hHeld => ?_)
  · exact HS.out _ (hB5.alloc hB5.size _)
  clear hK K
  try simp only [Act.put, List.setIfInBounds_toArray, List.set_cons_zero, List.set_cons_succ]
  refine wpAnyH_take (i := 11) (oi := { dst := some 6, op := Op.assign (Operand.tmp 24), type := 31, pos := "mach.go:31", after := #[{ on := 10, ground := Ground.data }, { on := 8, ground := Ground.chain }, { on := 0, ground := Ground.phase }, { on := 1, ground := Ground.phase }, { on := 2, ground := Ground.phase }, { on := 3, ground := Ground.phase }, { on := 4, ground := Ground.phase }, { on := 5, ground := Ground.phase }, { on := 6, ground := Ground.phase }, { on := 7, ground := Ground.phase }, { on := 8, ground := Ground.phase }, { on := 9, ground := Ground.phase }, { on := 10, ground := Ground.phase }], guard := none }) (v := .pointer (some ⟨y5.heap.size, 0, none⟩)) rfl (by kernel_rfl) (by kernel_rfl) (by kernel_rfl) (fun _ _ _ h => h) (Or.inl ⟨by rfl, ?_⟩) (by assumption) ?_
  · intro wq hSw
    go_simp
  try simp only [Act.put, List.setIfInBounds_toArray, List.set_cons_zero, List.set_cons_succ]
  refine wpAnyH_done (by kernel_rfl) ?_ _
  have hFB : FB (y5.alloc (.cells CV 72)) y5.heap.size 72 470 (mC (blankSt X) (.slice A3 X.length c3) (.slice A4 L.length c4) (.slice (some ⟨gb, 0, none⟩) L.length L.length) (.slice none 0 0)) := by rw [HCV.out]; exact FB.new _ _ _ _
  have hb5 := box1 y5 (.cells CV 72)
  have hlo2 := HB2.out.size
  have hlo3 := hB3.size
  have hlo4 := hB4.size
  have hlo5 := hB5.size
  have hMM : Mem (y5.alloc (.cells CV 72)) w.heap.size y5.heap.size ⟨L, goalsL L⟩ (blankSt X) (.slice A3 X.length c3) (.slice A4 L.length c4) (.slice (some ⟨gb, 0, none⟩) L.length L.length) (.slice none 0 0) :=
    ⟨hFB, by omega, owns_up (owns_up (owns_up (own_mono hv3 hlo2) hB4') hB5') hb5, owns_up (owns_up (own_mono hv4 (by omega)) hB5') hb5, owns_up (ownI_of_blk hgb (by simp [goalsL]) (by omega) (by omega)) hb5, OwnI.nil _ _, fun b hb => by cases hb⟩
  have HMM := Lib.hid hMM
  have HP3 := Lib.hid ((HP2.out.drew.up hB5).up hb5)
  have HI3 := Lib.hid ((HI2.out.drew.up hB5).up hb5)
  have HB6 := Lib.hid ((HB2.out.trans (hB5.mono hlo2)).trans (hb5.mono (by omega)))
  have hgg : w.heap.size + 1 < y5.heap.size := by have := (HI2.out.drew.up hB5).lt; omega
  clear hFB hMM hB3 hB4 hB4' hB5 hB5' hb5 hv3 hv4 hgb hcc hbm HS HBG HKC HGO HCV HMV HP2 HI2 HB2 hlo2 hlo3 hlo4 hlo5 hHeld
  generalize (y5.alloc (.cells CV 72)) = z1 at *
  generalize y5.heap.size = g at *
  obtain ⟨r0, r1, r2, r3⟩ := HMM.out.reg 1 (by decide)
  simp only [Nat.reduceMul, Nat.reduceAdd] at r0 r1 r2 r3
  have rf0 := HMM.out.fb.frozen 426
  have rf1 := HMM.out.fb.frozen 427
  have rf2 := HMM.out.fb.frozen 428
  have rf3 := HMM.out.fb.frozen 429
  have hM2 : Mem ((((z1.setCell ⟨g, 426, none⟩ (.int .i64 3)).setCell ⟨g, 427, none⟩ (.int .i64 0)).setCell ⟨g, 428, none⟩ (.int .i64 0)).setCell ⟨g, 429, none⟩ (.int .i64 0)) _ _ _ _ _ _ _ _ := HMM.out.put 1 (by decide) ⟨3, 0, 0, 0⟩
  have hT2 := Touch.set4 (g := g) z1 426 427 428 429 (.int .i64 3) (.int .i64 0) (.int .i64 0) (.int .i64 0)
  have HI4 := Lib.hid (HI3.out.touch hT2 (by omega))
  have HB7 := Lib.hid (HB6.out.trans (hT2.below (by omega) HB6.out.size))
  have HM2 := Lib.hid hM2
  clear hM2 hT2
  go_upto_region 7 with (fail)
  clear r0 r1 r2 r3 rf0 rf1 rf2 rf3
  generalize ((((z1.setCell ⟨g, 426, none⟩ (.int .i64 3)).setCell ⟨g, 427, none⟩ (.int .i64 0)).setCell ⟨g, 428, none⟩ (.int .i64 0)).setCell ⟨g, 429, none⟩ (.int .i64 0)) = z2 at *
  clear HMM HI3 HB6 HP3
  have hIc : ∀ wz, Below z2.drew.heap.size z2.drew wz → wz.cell? ⟨w.heap.size + 1, 0, none⟩ = some (.slice B X.length d) := fun wz hz => (HI4.out.drew.up hz).cell 0
  have HIc := Lib.hid hIc
  clear hIc
  have HNU := Lib.hid (num_u X.length z2.drew)
  have hine : w.heap.size + 1 ≠ g := by omega
  have HR2 := Lib.hid (fun wz (h : Mem wz w.heap.size g ⟨L, goalsL L⟩ ((blankSt X).put 1 ⟨3, 0, 0, 0⟩) (.slice A3 X.length c3) (.slice A4 L.length c4) (.slice (some ⟨gb, 0, none⟩) L.length L.length) (.slice none 0 0)) => reg2_at h)
  go_region_held3 (fun wz => wz.cell? ⟨w.heap.size + 1, 0, none⟩ = some (.slice B X.length d))
    (first | exact HIc.out _ (Below.refl _ _) | exact HIc.out _ hB8 | exact ((HI4.out.drew.up hB8).touch (Touch.set4 _ _ _ _ _ _ _ _ _) hine).cell 0 | fail)
    (first | (go_at_call 24; refine HNU.out.mono ?_; rintro e z3 ⟨rfl, hB8⟩; have HM3 := Lib.hid (HM2.out.drw.up hB8); obtain ⟨r0, r1, r2, r3, rf0, rf1, rf2, rf3⟩ := HR2.out _ HM3.out) | fail)
  have hM4 : Mem ((((z3.setCell ⟨g, 430, none⟩ (.int .i64 1)).setCell ⟨g, 431, none⟩ (.int .i64 0)).setCell ⟨g, 432, none⟩ (.int .i64 0)).setCell ⟨g, 433, none⟩ (.int .i64 (X.length : Int))) _ _ _ _ _ _ _ _ := HM3.out.put 2 (by decide) (V.num X.length)
  have hT4 := Touch.set4 (g := g) z3 430 431 432 433 (.int .i64 1) (.int .i64 0) (.int .i64 0) (.int .i64 (X.length : Int))
  have hB9 := (bdrw HB7.out).trans (hB8.mono HB7.out.size)
  have HB9 := Lib.hid (hB9.trans (hT4.below (by omega) hB9.size))
  have HM4 := Lib.hid hM4
  clear hM4 hT4 hB9 hB8 HM3 HIc HI4 HB7 HM2
  clear r0 r1 r2 r3 rf0 rf1 rf2 rf3
  generalize ((((z3.setCell ⟨g, 430, none⟩ (.int .i64 1)).setCell ⟨g, 431, none⟩ (.int .i64 0)).setCell ⟨g, 432, none⟩ (.int .i64 0)).setCell ⟨g, 433, none⟩ (.int .i64 (X.length : Int))) = z4 at *
  obtain ⟨r0, r1, r2, r3⟩ := HM4.out.reg 10 (by decide)
  simp only [Nat.reduceMul, Nat.reduceAdd] at r0 r1 r2 r3
  have rf0 := HM4.out.fb.frozen 462
  have rf1 := HM4.out.fb.frozen 463
  have rf2 := HM4.out.fb.frozen 464
  have rf3 := HM4.out.fb.frozen 465
  have hM5 : Mem ((((z4.setCell ⟨g, 462, none⟩ (.int .i64 2)).setCell ⟨g, 463, none⟩ (.int .i64 0)).setCell ⟨g, 464, none⟩ (.int .i64 0)).setCell ⟨g, 465, none⟩ (.int .i64 256)) _ _ _ _ _ _ _ _ := HM4.out.put 10 (by decide) ⟨2, 0, 0, 256⟩
  have hT5 := Touch.set4 (g := g) z4 462 463 464 465 (.int .i64 2) (.int .i64 0) (.int .i64 0) (.int .i64 256)
  have HB10 := Lib.hid (HB9.out.trans (hT5.below (by omega) HB9.out.size))
  have HM5 := Lib.hid hM5
  clear hM5 hT5
  go_wp2_with fail
  go_ret2
  exact ⟨g, rfl, ⟨_, _, _, _, HM5.out⟩, HB10.out⟩
end Go.Proofs.YtpigkppnelnhiaaGreat
