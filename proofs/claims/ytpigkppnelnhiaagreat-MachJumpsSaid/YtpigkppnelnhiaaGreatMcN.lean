/- Package mach: New, of programs without data and tables. -/
import Derived.Test.YtpigkppnelnhiaaGreatMcV
import Derived.Test.YtpigkppnelnhiaaGreatMcY
import Derived.Test.YtpigkppnelnhiaaGreatMcZ
namespace Go.Proofs.YtpigkppnelnhiaaGreat
open Go.ChangeShapes Go.WideShapes Go.ChangeAt Go.RowKit
open Cod Bits
set_option linter.unusedVariables false
set_option linter.unusedSimpArgs false
set_option maxRecDepth 100000
theorem oddNone_v (w : World) : Calls Tryz.prog 41 #[.slice none 0 0, .func (.func 42) #[] #[]] w fun e w' => e = .returned (.bool false) ∧ w = w' := by
  have hi : ∀ w, Calls Tryz.prog 68 #[.slice none 0 0, .func (.func 42) #[] #[]] w fun e w' => e = .returned (.int .i64 (-1)) ∧ w = w' := by
    intro w
    go_enter Tryz.func68, Tryz.ntmps68
    go_wp2_with fail
    go_loopw [8] (fun i wr => i = .int .i64 0 ∧ wr = w) (fun _ _ => 0)
    case atStart => exact ⟨rfl, rfl⟩
    case round =>
      obtain ⟨rfl, rfl⟩ := hrel
      go_wp2_with fail
      go_ret
      exact ⟨rfl, rfl⟩
  go_enter Tryz.func41, Tryz.ntmps41
  go_wp2_with (go_at_call 68; refine (hi _).mono ?_; rintro e w' ⟨rfl, rfl⟩)
  go_ret
  exact ⟨rfl, rfl⟩
theorem beyond_v (op : Int) (nar reg : Bool) (size dst src off imm : Int) (v : Value) (ho : op ≠ 21) (w : World) : Calls Tryz.prog 44 #[.agg #[.int .i64 op, .bool nar, .bool reg, .int .i64 size, .int .i64 dst, .int .i64 src, .int .i64 off, .int .i64 imm], v] w fun e w' => e = .returned (.bool false) ∧ Below w.heap.size w w' := by
  have t : (op == 21) = false := by rw [beq_eq_false_iff_ne]; exact ho
  have hB := box1 w (.cells #[.int .i64 op, .bool nar, .bool reg, .int .i64 size, .int .i64 dst, .int .i64 src, .int .i64 off, .int .i64 imm] 57)
  clear ho
  go_enter Tryz.func44, Tryz.ntmps44
  go_wp2_with fail
  go_ret
  exact ⟨rfl, hB⟩
/-- the closure that looks for data beyond the program's -/
def beyF (p : Nat) : Value := .func (.func 44) #[] #[.pointer (some ⟨p, 0, none⟩)]
set_option maxHeartbeats 4000000 in
theorem index_v (w : World) (A : Option Addr) (n c p : Nat) (L : List Ins) (hL : L.length = n) (hn : n ≤ 1048576) (h : CodeAt w A L) (ho : ∀ i ∈ L, i.op ≠ 21) :
    Calls Tryz.prog 70 #[.slice A n c, beyF p] w fun e w' => e = .returned (.int .i64 (-1)) ∧ Below w.heap.size w w' := by
  have HA := Lib.hid h
  have HL := Lib.hid hL
  have HO := Lib.hid ho
  clear h hL ho
  unfold beyF
  go_enter Tryz.func70, Tryz.ntmps70
  go_wp2_with fail
  go_loopw [5, 8] (fun _ i wr => ∃ k : Nat, k ≤ n ∧ i = .int .i64 k ∧ Below w.heap.size w wr) (fun _ i _ => (n - intOf i).toNat)
  case atStart => exact ⟨0, Nat.zero_le _, rfl, Below.refl _ _⟩
  case round =>
    obtain ⟨k, hk, rfl, hB⟩ := hrel
    by_cases hlt : k < n
    · have hlt' : (k : Int) < n := by omega
      obtain ⟨b, off, rfl, hbl, hc⟩ := HA.out (by have := HL.out; omega)
      obtain ⟨i, hi⟩ : ∃ i, L[k]? = some i := ⟨L[k]'(by have := HL.out; omega), List.getElem?_eq_getElem _⟩
      obtain ⟨x0, x1, x2, x3, x4, x5, x6, x7⟩ := (hc k i hi).below hB hbl
      have hm : i ∈ L := by
        rw [List.getElem?_eq_some_iff] at hi
        obtain ⟨h1, rfl⟩ := hi
        exact List.getElem_mem h1
      have h21 := HO.out i hm
      clear hc hi hm
      obtain ⟨op, nar, reg, size, dst, src, io, imm⟩ := i
      simp only at x0 x1 x2 x3 x4 x5 x6 x7 h21
      go_wp2_with fail
      go_at_call 44
      refine (beyond_v op nar reg size dst src io imm _ h21 _).mono ?_
      rintro e w2 ⟨rfl, hB2⟩
      have HB3 := Lib.hid (hB.trans (hB2.mono hB.size))
      clear hB hB2
      go_wp2_with fail
      go_roundw
      case rel => exact ⟨k + 1, by omega, by go_num, HB3.out⟩
      case measure => simp [intOf]; omega
    · obtain rfl : k = n := by omega
      go_wp2_with fail
      go_ret
      exact ⟨rfl, hB⟩
theorem contains_v (w : World) (A : Option Addr) (n c p : Nat) (L : List Ins) (hL : L.length = n) (hn : n ≤ 1048576) (h : CodeAt w A L) (ho : ∀ i ∈ L, i.op ≠ 21) :
    Calls Tryz.prog 45 #[.slice A n c, beyF p] w fun e w' => e = .returned (.bool false) ∧ Below w.heap.size w w' := by
  have hi := Lib.hid (index_v w A n c p L hL hn h ho)
  clear h ho hL
  unfold beyF at *
  go_enter Tryz.func45, Tryz.ntmps45
  go_wp2_with (go_at_call 70; refine hi.out.mono ?_; rintro e w' ⟨rfl, hB⟩)
  go_ret
  exact ⟨rfl, hB⟩
def pV (lo hi : Int) (A : Option Addr) (n c : Nat) : Array Value := #[.int .i64 lo, .int .i64 hi, .slice none 0 0, .slice none 0 0, .slice A n c]
set_option maxHeartbeats 4000000 in
theorem wellMade_v (w : World) (lo hi : Int) (A : Option Addr) (n c : Nat) (L : List Ins) (hL : L.length = n) (hn : n ≤ 1048576) (h1 : 1 ≤ n) (h : CodeAt w A L) (ho : ∀ i ∈ L, i.op ≠ 21) (hlo : 0 ≤ lo ∧ lo ≤ hi ∧ hi ≤ 65535) :
    Calls Tryz.prog 19 #[.agg #[.int .i64 lo, .int .i64 hi, .slice none 0 0, .slice none 0 0, .slice A n c]] w fun e w' => e = .returned (.bool ((checkL L 0).2 == 0)) ∧ Below w.heap.size w w' := by
  have hP := Blk.new w 26 #[.int .i64 lo, .int .i64 hi, .slice none 0 0, .slice none 0 0, .slice A n c]
  have hB := box1 w (.cells #[.int .i64 lo, .int .i64 hi, .slice none 0 0, .slice none 0 0, .slice A n c] 26)
  have hC := h.below hB
  obtain ⟨⟨k1, k2⟩, hq⟩ : ∃ q, checkL L 0 = q := ⟨_, rfl⟩
  rw [hq]
  obtain ⟨a1, a2, a3⟩ := hlo
  have t1 : decide (lo < 0) = false := by simp; omega
  have t2 : decide (hi < lo) = false := by simp; omega
  have t3 : decide (65535 < hi) = false := by simp; omega
  have t4 : ((n : Int) == 0) = false := by simp; omega
  clear a1 a2 a3 h1 h
  go_enter Tryz.func19, Tryz.ntmps19
  go_upto_region 1 with (fail)
  generalize (w.alloc (.cells #[.int .i64 lo, .int .i64 hi, .slice none 0 0, .slice none 0 0, .slice A n c] 26)) = w1 at *
  obtain ⟨⟨c0, c1, c2, c3, c4⟩, -⟩ := hP.five
  have hck0 := check_any w1 A n c L hL (by omega) hC
  rw [hq] at hck0
  have hck := Lib.hid hck0
  clear hck0
  have HP := Lib.hid hP
  have HB := Lib.hid hB
  have HC := Lib.hid hC
  clear hP hB hC hq
  go_wp2_with (go_at_call 41; refine (oddNone_v _).mono ?_; rintro e w' ⟨rfl, rfl⟩)
  go_at_call 43
  refine hck.out.mono ?_
  rintro e w2 ⟨rfl, hB2⟩
  obtain ⟨⟨d0, d1, d2, d3, d4⟩, -⟩ := (HP.out.up hB2).five
  have HC2 := Lib.hid (HC.out.below hB2)
  have HB2 := Lib.hid (HB.out.trans (hB2.mono HB.out.size))
  clear hB2 hck HC HP HB
  cases tk : (k2 == 0)
  · have tk' : (k2 != 0) = true := by simp [bne, tk]
    go_wp2_with fail
    go_ret
    exact ⟨by rw [tk]; rfl, HB2.out⟩
  · obtain rfl : k2 = 0 := eq_of_beq tk
    have hmf : ∀ (fn : Fn) (first cap : Array Value) (w : World), (Instr.makeFunc fn first cap).run Tryz.prog w = .ok (.func fn first cap) w := fun _ _ _ _ => rfl
    go_wp2_with fail
    go_at_call 45
    refine (contains_v w2 A n c _ L hL hn HC2.out ho).mono ?_
    rintro e w3 ⟨rfl, hB3⟩
    go_wp2_with fail
    go_ret
    exact ⟨rfl, HB2.out.trans (hB3.mono HB2.out.size)⟩
set_option maxHeartbeats 4000000 in
theorem fits_v (w : World) (lo hi : Int) (A : Option Addr) (n c : Nat) (B : Option Addr) (m d : Nat) (f : Bool) (hf : (!(decide ((m : Int) < lo) || decide (hi < (m : Int)))) = f) :
    Calls Tryz.prog 20 #[.agg #[.int .i64 lo, .int .i64 hi, .slice none 0 0, .slice none 0 0, .slice A n c], .agg #[.slice B m d, .slice none 0 0]] w fun e w' => e = .returned (.bool f) ∧ Below w.heap.size w w' := by
  have hB := box2 w (.cells #[.int .i64 lo, .int .i64 hi, .slice none 0 0, .slice none 0 0, .slice A n c] 26) (.cells #[.slice B m d, .slice none 0 0] 29)
  cases t1 : decide ((m : Int) < lo)
  · cases t2 : decide (hi < (m : Int))
    · rw [t1, t2] at hf
      go_enter Tryz.func20, Tryz.ntmps20
      go_wp2_with fail
      go_loopw [5, 6, 33] (fun _ _ i wr => i = .int .i64 0 ∧ Below w.heap.size w wr) (fun _ _ _ _ => 0)
      case atStart => exact ⟨rfl, hB⟩
      case round =>
        obtain ⟨rfl, hB⟩ := hrel
        go_wp2_with fail
        go_ret
        exact ⟨by rw [← hf]; rfl, hB⟩
    · rw [t1, t2] at hf
      go_enter Tryz.func20, Tryz.ntmps20
      go_wp2_with fail
      go_ret
      exact ⟨by rw [← hf]; rfl, hB⟩
  · rw [t1] at hf
    go_enter Tryz.func20, Tryz.ntmps20
    go_wp2_with fail
    go_ret
    exact ⟨by rw [← hf]; rfl, hB⟩
theorem cloneT_v (w : World) : Calls Tryz.prog 46 #[.slice none 0 0] w fun x w' => x = .returned (.slice none 0 0) ∧ w = w' := by
  have hq : (binOp .eql 23 (.slice none 0 0) (.slice none 0 0)).run Tryz.prog w = .ok (.bool true) w := by kernel_rfl
  go_enter Tryz.func46, Tryz.ntmps46
  go_wp2_with fail
  go_ret
  exact ⟨rfl, rfl⟩
theorem cloneK_v (w : World) (ad : Addr) (n c : Nat) (L : List Ins) (hL : L.length = n) (hlen : n ≤ 1048576) (h : CodeAt w (some ad) L) :
    Calls Tryz.prog 22 #[.slice (some ad) n c] w fun x w' => ∃ v, x = .returned v ∧ OwnK w' w.heap.size v L ∧ Below w.heap.size w w' := by
  have hq : (binOp .eql 24 (.slice (some ad) n c) (.slice none 0 0)).run Tryz.prog w = .ok (.bool false) w := Lib.run_eql_slice_nil w _ _ _ _ _ _ _ Tryz.underlying24
  have hown := ownK_empty w
  have hB := box1 w (.cells #[] 57)
  have hat := h.below hB
  have hs : w.heap.size ≤ (w.alloc (.cells #[] 57)).heap.size := by simp
  have HOwn := Lib.hid hown
  have HAt := Lib.hid hat
  clear hown h hat
  go_enter Tryz.func22, Tryz.ntmps22
  go_upto_region 3 with (fail)
  go_wp2_with (at_builtin; (refine append_code Tryz.underlying24 ins_info _ rfl (.tmp 5) (.tmp 6) rfl w.heap.size _ _ rfl HOwn.out _ n c _ rfl hL HAt.out (by simp; omega) hs ?_; intro v' w' hown' hB'))
  go_ret
  exact ⟨v', rfl, hown', hB.trans (hB'.mono (Nat.le_refl _))⟩
/-- the memory's cells at a run's beginning -/
def mem0 (v : Value) (k : Nat) : Value := if k < 416 then slC ⟨V.zero, fun _ => 0, 0⟩ (k % 13) else if k = 416 then v else .slice none 0 0
theorem zeroMem : (Tryz.prog.info? 67).bind (fun i => i.zero.map Value.cells) = some (arr 420 (mem0 (.slice none 0 0))) := by kernel_rfl
theorem sizeMem : (Tryz.prog.info? 67).map (·.size) = some 420 := by kernel_rfl
theorem built_mem0 (A : Option Addr) (n c : Nat) : Tryz.prog.built 67 [(1, .slice A n c), (2, .slice none 0 0), (3, .slice none 0 0), (4, .slice none 0 0)] = some (arr 420 (mem0 (.slice A n c))) := by kernel_rfl
theorem built_mem (A : Option Addr) (n c : Nat) (w : World) : (Instr.build 67 #[(1, .slice A n c), (2, .slice none 0 0), (3, .slice none 0 0), (4, .slice none 0 0)]).run Tryz.prog w = .ok (.agg (arr 420 (mem0 (.slice A n c)))) w :=
  run_build w _ _ _ (built_mem0 A n c)
theorem cloneN_v (w : World) : Calls Tryz.prog 30 #[.slice none 0 0] w fun x w' => x = .returned (.slice none 0 0) ∧ w = w' := by
  have hq : (binOp .eql 22 (.slice none 0 0) (.slice none 0 0)).run Tryz.prog w = .ok (.bool true) w := by kernel_rfl
  go_enter Tryz.func30, Tryz.ntmps30
  go_wp2_with fail
  go_ret
  exact ⟨rfl, rfl⟩
theorem mem0_one (v : Value) (hv : v.oneCell' = true) (k : Nat) : (mem0 v k).oneCell' = true := by
  unfold mem0
  split
  · unfold slC vC
    repeat (first | rfl | split)
  · split
    · exact hv
    · rfl
theorem mem_list (A : Option Addr) (n c : Nat) : ((((Tryz.zeroCells67.toList.set 416 (.slice A n c)).set 417 (.slice none 0 0)).set 418 (.slice none 0 0)).set 419 (.slice none 0 0)) = (arr 420 (mem0 (.slice A n c))).toList := by kernel_rfl
theorem store_mem (w : World) (b : Nat) (f : Nat → Value) (A : Option Addr) (n c : Nat) (hb : FB w b 67 420 f) :
    (storeCells ⟨b, 0, none⟩ ((((Tryz.zeroCells67.toList.set 416 (.slice A n c)).set 417 (.slice none 0 0)).set 418 (.slice none 0 0)).set 419 (.slice none 0 0))).run Tryz.prog w = .ok () (w.setRow b (arr 420 (mem0 (.slice A n c)))) := by
  rw [mem_list]
  have := run_storeCells_at Tryz.prog b 0 67 (arr 420 (mem0 (.slice A n c))).toList 0 (arr 420 f) w hb (by simp [arr]) (fun v hv => by
    rw [arr_toList, List.mem_map] at hv
    obtain ⟨q, hq, rfl⟩ := hv
    exact mem0_one _ rfl q)
  rw [Nat.add_zero, updR_list 420 0 420 f (mem0 (.slice A n c)) (by decide)] at this
  rw [this]
  rw [arr_congr (f := updR f 0 420 (mem0 (.slice A n c))) (g := mem0 (.slice A n c)) (fun k hk => by unfold updR; rw [if_pos (by omega), Nat.sub_zero])]
set_option maxHeartbeats 4000000 in
theorem begun_v (w : World) (lo hi : Int) (A : Option Addr) (n c : Nat) (B : Option Addr) (m d : Nat) (L : List Int) (hL : L.length = m) (hm : m ≤ 1048576) (hB : BytesAt w B L) (hr : B = none → d = 0 ∧ m = 0) :
    Calls Tryz.prog 21 #[.agg #[.int .i64 lo, .int .i64 hi, .slice none 0 0, .slice none 0 0, .slice A n c], .agg #[.slice B m d, .slice none 0 0]] w fun e w' => ∃ v, e = .returned (.agg (arr 420 (mem0 v))) ∧ OwnB w' w.heap.size v L ∧ Below w.heap.size w w' := by
  subst hL
  have hP0 := (Blk.new w 26 #[.int .i64 lo, .int .i64 hi, .slice none 0 0, .slice none 0 0, .slice A n c]).alloc (.cells #[.slice B L.length d, .slice none 0 0] 29)
  have hI0 := blk_new2 w (.cells #[.int .i64 lo, .int .i64 hi, .slice none 0 0, .slice none 0 0, .slice A n c] 26) 29 #[.slice B L.length d, .slice none 0 0]
  have hB0 := box2 w (.cells #[.int .i64 lo, .int .i64 hi, .slice none 0 0, .slice none 0 0, .slice A n c] 26) (.cells #[.slice B L.length d, .slice none 0 0] 29)
  have hat0 := hB.below hB0
  have hsz : ((w.alloc (.cells #[.int .i64 lo, .int .i64 hi, .slice none 0 0, .slice none 0 0, .slice A n c] 26)).alloc (.cells #[.slice B L.length d, .slice none 0 0] 29)).heap.size = w.heap.size + 1 + 1 := by simp
  clear hB
  go_enter Tryz.func21, Tryz.ntmps21
  go_upto_region 1 with (refine wpList_alloc_seg rfl 67 rfl 420 (mem0 (.slice none 0 0)) zeroMem ?_; intro w1 hb1 hB1 hs1)
  generalize ((w.alloc (.cells #[.int .i64 lo, .int .i64 hi, .slice none 0 0, .slice none 0 0, .slice A n c] 26)).alloc (.cells #[.slice B L.length d, .slice none 0 0] 29)) = w0 at *
  rw [hsz] at hb1 hs1 ⊢
  have hP1 := hP0.up hB1
  have hI1 := hI0.up hB1
  have hat1 := hat0.below hB1
  have HB1 := Lib.hid (bdrw (hB0.trans (hB1.mono hB0.size)))
  have HCB := Lib.hid (cloneB_v w1.drew B _ d L rfl (by omega) hat1 hr)
  have p2 : w1.cell? ⟨w.heap.size, 2, none⟩ = some (.slice none 0 0) := hP1.cell 2
  have p3 : w1.cell? ⟨w.heap.size, 3, none⟩ = some (.slice none 0 0) := hP1.cell 3
  have i0 : w1.cell? ⟨w.heap.size + 1, 0, none⟩ = some (.slice B L.length d) := hI1.cell 0
  have i1 : w1.cell? ⟨w.heap.size + 1, 1, none⟩ = some (.slice none 0 0) := hI1.cell 1
  have HP1 := Lib.hid hP1
  have HI1 := Lib.hid hI1
  have Hb1 := Lib.hid hb1
  have hbd := built_mem
  clear hP0 hI0 hB0 hat0 hsz hB1 hP1 hI1 hat1 hb1 hs1 hr
  have hS : ∀ wz, Below w1.drew.heap.size w1.drew wz → wz.cell? ⟨w.heap.size, 2, none⟩ = some (.slice none 0 0) ∧ wz.cell? ⟨w.heap.size, 3, none⟩ = some (.slice none 0 0) ∧ wz.cell? ⟨w.heap.size + 1, 0, none⟩ = some (.slice B L.length d) ∧ wz.cell? ⟨w.heap.size + 1, 1, none⟩ = some (.slice none 0 0) := fun wz hz =>
    ⟨(HP1.out.drew.up hz).cell 2, (HP1.out.drew.up hz).cell 3, (HI1.out.drew.up hz).cell 0, (HI1.out.drew.up hz).cell 1⟩
  have HS := Lib.hid hS
  have hne1 : w.heap.size ≠ w.heap.size + 1 + 1 := by omega
  have hne2 : w.heap.size + 1 ≠ w.heap.size + 1 + 1 := by omega
  clear hS
  go_region_held3 (fun wz => wz.cell? ⟨w.heap.size, 2, none⟩ = some (.slice none 0 0) ∧ wz.cell? ⟨w.heap.size, 3, none⟩ = some (.slice none 0 0) ∧ wz.cell? ⟨w.heap.size + 1, 0, none⟩ = some (.slice B L.length d) ∧ wz.cell? ⟨w.heap.size + 1, 1, none⟩ = some (.slice none 0 0))
    (first | with_reducible exact HS.out _ (Below.refl _ _) | with_reducible exact HS.out _ hB2 | exact ⟨((HP1.out.drew.up hB2).touch (setRow_touch y1 _ _) hne1).cell 2, ((HP1.out.drew.up hB2).touch (setRow_touch y1 _ _) hne1).cell 3, ((HI1.out.drew.up hB2).touch (setRow_touch y1 _ _) hne2).cell 0, ((HI1.out.drew.up hB2).touch (setRow_touch y1 _ _) hne2).cell 1⟩ | fail)
    (first | (go_at_call 30; (with_reducible refine HCB.out.mono ?_); rintro e y1 ⟨v, rfl, hv, hB2⟩; obtain ⟨A2, c2, rfl⟩ := owns_slice hv; have hb2 := (show FB w1.drew (w.heap.size + 1 + 1) 67 420 _ from Hb1.out).up hB2; have hst := store_mem y1 (w.heap.size + 1 + 1) _ A2 L.length c2 hb2) | (go_at_call 30; (with_reducible refine (cloneN_v _).mono ?_); rintro e y9 ⟨rfl, rfl⟩) | (go_at_call 31; refine (clones_v _).mono ?_; rintro e y9 ⟨rfl, rfl⟩) | (go_at_call 46; refine (cloneT_v _).mono ?_; rintro e y9 ⟨rfl, rfl⟩))
  have hR := Lib.hid (setRow_FB (f' := mem0 (.slice A2 L.length c2)) hb2)
  have hv' := Lib.hid (owns_touch hv (setRow_touch y1 (w.heap.size + 1 + 1) (arr 420 (mem0 (.slice A2 L.length c2)))) (owns_ne hv hb2 (by decide)))
  have hBz := Lib.hid ((HB1.out.trans (hB2.mono HB1.out.size)).trans ((setRow_touch y1 (w.heap.size + 1 + 1) (arr 420 (mem0 (.slice A2 L.length c2)))).below (show w.heap.size ≤ w.heap.size + 1 + 1 by omega) (Nat.le_trans HB1.out.size hB2.size)))
  have HSZ := Lib.hid HB1.out.size
  clear hb2 hst hv hB2 hbd p2 p3 i0 i1 HP1 HI1 Hb1 HS HCB
  go_wp2_with fail
  exact bodyPost_ret (result_seg Tryz.results21 _ _ (w.heap.size + 1 + 1) 67 420 (mem0 (.slice A2 L.length c2)) _ rfl hR.out Tryz.underlying67 rfl sizeMem) rfl ⟨_, rfl, own_mono hv'.out HSZ.out, hBz.out⟩
end Go.Proofs.YtpigkppnelnhiaaGreat
