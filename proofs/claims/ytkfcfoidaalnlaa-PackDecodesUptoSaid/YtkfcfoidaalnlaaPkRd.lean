/- Package pack: the document's own Encode. Laid by wip/tools/mkpkrd.py. -/
import Derived.Test.YtkfcfoidaalnlaaPkRc
namespace Go.Proofs.Ytkfcfoidaalnlaa.Pak
open Go.ChangeShapes Go.WideShapes Go.ChangeAt Go.RowKit
set_option linter.unusedVariables false
set_option linter.unusedSimpArgs false
set_option maxRecDepth 100000
theorem step_append_bytesE {ops : Array Oper} {o : Oper} {a : Act} {w : World} {K : Act → World → Prop} {Q : Exit → Act → World → Prop} {E : Prop} (hgd : o.guard = none) (s x : Operand)
    (ho : o.op = .call { callee := .builtin .append, args := #[s, x], argTypes := #[22, 22] })
    (base : Nat) (v : Value) (L : List Int) (hs : a.eval s = v) (hown : OwnB w base v L) (A : Option Addr) (m c : Nat) (M : List Int) (hx : a.eval x = .slice A m c) (hm : M.length = m) (hr : BytesAt w A M)
    (hlen : L.length + m ≤ 140737488355328) (hbase : base ≤ w.heap.size)
    (h : ∀ v' w', OwnB w' base v' (L ++ M) → w.grownBy w' v.ownBlock → K (a.put o.dst v') w') : if Region.wanted o (yielded ops a.tmps) = true then Oper.wp Try.prog o a w K Q else E := by
  subst hm
  obtain ⟨i0, hi, hz0, hz1, hz2⟩ := info_parts byte_info
  refine step_append_any w hgd s x 22 ho base 5 i0 (.int .u8 0) 1 1 Try.underlying22 hi hz0 hz1 hz2 rfl (by decide) v L.length _ hs hown w.heap.size A M.length c _ hx hr.reads
    (fun u hu => ?_) (by unfold maxLen; omega) (by omega) hbase ?_
  · simp only [List.mem_map] at hu
    obtain ⟨z, _, rfl⟩ := hu
    rfl
  · intro v' w' h1 h2 _
    refine h v' w' ?_ h2
    unfold OwnB
    rw [List.length_append, List.map_append]
    exact h1
theorem own_box (w : World) (L : List Int) (n : Nat) (hn : L.length = n) (hm : n ≤ maxLen) : OwnB (w.alloc (.cells (L.map (Value.int .u8)).toArray 5)) w.heap.size (.slice (some ⟨w.heap.size, 0, none⟩) n n) L := by
  subst hn
  exact ⟨by simp, .inr ⟨w.heap.size, L.length, (L.map (Value.int .u8)).toArray, rfl, Nat.le_refl _, ByteBlk.new w L, Nat.le_refl _, hm, by simp, by simp [List.take_of_length_le]⟩⟩
def box3 (a b c : Value) : Nat → Value
  | 0 => a
  | 1 => b
  | _ => c
structure ReS (g bt offt nt ct j : Nat) (r d : Int) (W : World) : Prop where
  z3 : W.cell? ⟨g, 3, none⟩ = some (.slice (some ⟨bt, offt, none⟩) nt ct)
  c0 : W.cell? ⟨bt, offt + j * 2, none⟩ = some (.int .i64 r)
  c1 : W.cell? ⟨bt, offt + j * 2 + 1, none⟩ = some (.int .i64 d)
  g : g < W.heap.size
  b : bt < W.heap.size
theorem ReS.up {g bt offt nt ct j : Nat} {r d : Int} {W W' : World} (h : ReS g bt offt nt ct j r d W) (hb : Below W.heap.size W W') : ReS g bt offt nt ct j r d W' :=
  ⟨(cell_same (hb.block g h.g) _).trans h.z3, (cell_same (hb.block bt h.b) _).trans h.c0, (cell_same (hb.block bt h.b) _).trans h.c1, Nat.lt_of_lt_of_le h.g hb.size, Nat.lt_of_lt_of_le h.b hb.size⟩
/-- a part that was told stays -/
theorem SlB {w6 w : World} {B : Nat → Value} {P : Nat → List Int} (h : ∀ j, j < 3 → ∃ A n c, B j = Value.slice A n c ∧ Sl w6 A n c (P j)) {j : Nat} {A : Option Addr} {n c : Nat} (e : B j = .slice A n c) (hj : j < 3) (hb : Below w6.heap.size w6 w) : Sl w A n c (P j) := by
  obtain ⟨A', n', c', e', hs⟩ := h j hj
  rw [e'] at e
  injection e with e1 e2 e3
  subst e1 e2 e3
  exact hs.up hb
/-- the parts behind the first one -/
def prt (k : Pk) : Nat → List Int
  | 0 => tabB k.tabs
  | 1 => k.data
  | _ => k.code
/-- what is still to be written before part j -/
def rst (k : Pk) : Nat → List Int
  | 0 => sec 2 (tabB k.tabs) ++ (sec 3 k.data ++ sec 4 k.code)
  | 1 => sec 3 k.data ++ sec 4 k.code
  | 2 => sec 4 k.code
  | _ => []
theorem rst_none {k : Pk} {j : Nat} (hj : j < 3) (h : prt k j = []) : rst k j = rst k (j + 1) := by
  rcases (show j = 0 ∨ j = 1 ∨ j = 2 by omega) with rfl | rfl | rfl
  · show sec 2 (tabB k.tabs) ++ _ = _
    rw [show tabB k.tabs = [] from h]; rfl
  · show sec 3 k.data ++ _ = _
    rw [show k.data = [] from h]; rfl
  · show sec 4 k.code = _
    rw [show k.code = [] from h]; rfl
theorem rst_some {k : Pk} {j : Nat} (hj : j < 3) (h : prt k j ≠ []) : rst k j = [(2 + j : Int)] ++ (le (prt k j).length 3 ++ (prt k j ++ rst k (j + 1))) := by
  have hs : ∀ (q : Int) (c r : List Int), c ≠ [] → sec q c ++ r = [q] ++ (le c.length 3 ++ (c ++ r)) := fun q c r hc => by unfold sec; rw [if_neg hc]; simp
  rcases (show j = 0 ∨ j = 1 ∨ j = 2 by omega) with rfl | rfl | rfl
  · exact hs 2 _ _ h
  · exact hs 3 _ _ h
  · have := hs 4 (prt k 2) [] h
    rw [List.append_nil] at this
    exact this
theorem body_at (k : Pk) : bodyW k = mark ++ ([1, 4, 0, 0] ++ (le k.lo 2 ++ (le k.hi 2 ++ rst k 0))) := by
  unfold bodyW
  rw [show sec 1 (le k.lo 2 ++ le k.hi 2) = [1, 4, 0, 0] ++ (le k.lo 2 ++ le k.hi 2) by unfold sec; rw [if_neg (lens_ne _ _), lens_len, show le ((4 : Nat) : Int) 3 = [4, 0, 0] by decide]; rfl]
  simp only [List.append_assoc, rst]
theorem body_le (k : Pk) : (bodyW k).length ≤ 28 + (2 * k.tabs.length + (k.data.length + k.code.length)) := by
  have hs : ∀ (q : Int) (c : List Int), (sec q c).length ≤ 4 + c.length := fun q c => by
    unfold sec
    split
    · exact Nat.zero_le _
    · simp [le_len]; omega
  rw [body_at]
  show (mark ++ ([1, 4, 0, 0] ++ (le k.lo 2 ++ (le k.hi 2 ++ (sec 2 (tabB k.tabs) ++ (sec 3 k.data ++ sec 4 k.code)))))).length ≤ _
  have h1 := hs 2 (tabB k.tabs)
  have h2 := hs 3 k.data
  have h3 := hs 4 k.code
  rw [tabB_len] at h1
  simp only [List.length_append, le_len, List.length_cons, List.length_nil, show mark.length = 4 from rfl]
  omega
set_option maxHeartbeats 16000000 in
theorem rencode_any (w : World) (k : Pk) (vd vt vc : Value) (hk : PkAt w vd vt vc k) (hd : Bytes k.data) (hc : Bytes k.code) (hcl : k.code.length ≤ 140737488355328) (htl : k.tabs.length ≤ 1152921504606846976) :
    Calls Try.prog 9 #[.agg (arr 5 (pkF k.lo k.hi vd vt vc))] w (Encoded w k) := by
  obtain ⟨⟨Ad, nd, cd, rfl, hDa⟩, ⟨At, nt, ct, rfl, hTb⟩, Ac, nc, cc, rfl, hCo⟩ := id hk
  have HDA := Lib.hid hDa
  have HTB := Lib.hid hTb
  have HCO := Lib.hid hCo
  have HD := Lib.hid hd
  have HC := Lib.hid hc
  have HCL := Lib.hid hcl
  have HTL := Lib.hid htl
  clear hDa hTb hCo hk hd hc hcl htl
  obtain ⟨X, hX⟩ : ∃ X, X = pkF k.lo k.hi (.slice Ad nd cd) (.slice At nt ct) (.slice Ac nc cc) := ⟨_, rfl⟩
  rw [← hX]
  have HX := Lib.hid hX
  clear hX
  obtain ⟨ee, hee⟩ : ∃ e, e = encE k := ⟨_, rfl⟩
  obtain ⟨se, hse⟩ : ∃ e, e = sizesE k.lo k.hi k.tabs nd := ⟨_, rfl⟩
  have HEE := Lib.hid hee
  have HSE := Lib.hid (show se = sizesE k.lo k.hi k.tabs k.data.length by rw [hse, HDA.out.len.out])
  have HSZ := Lib.hid (fun w1 (hB : Below w.heap.size w w1) => rsizes_any w1 k.lo k.hi Ad nd cd At nt ct k.tabs HTB.out.len.out (by have := HTB.out.len.out; have := HTL.out; omega) (HTB.out.row.below hB))
  rw [← hse] at HSZ
  clear hee hse
  go_enter Try.func9, Try.ntmps9
  go_upto_region 1 with (refine wpList_box_seg rfl _ (.tmp 0) rfl 5 X rfl ?_; intro w1 h1 hB1 hs1)
  obtain ⟨g, hg⟩ : ∃ g, g = w.heap.size := ⟨_, rfl⟩
  rw [← hg] at h1 ⊢
  have x0 : w1.cell? ⟨g, 0, none⟩ = some (.int .i64 k.lo) := by rw [h1.cell 0 (by decide), HX.out]; rfl
  have x1 : w1.cell? ⟨g, 1, none⟩ = some (.int .i64 k.hi) := by rw [h1.cell 1 (by decide), HX.out]; rfl
  have x2 : w1.cell? ⟨g, 2, none⟩ = some (.slice Ad nd cd) := by rw [h1.cell 2 (by decide), HX.out]; rfl
  have x3 : w1.cell? ⟨g, 3, none⟩ = some (.slice At nt ct) := by rw [h1.cell 3 (by decide), HX.out]; rfl
  have HF1 := Lib.hid h1
  have HB1 := Lib.hid hB1
  clear h1 hB1 hs1 hg
  go_upto_region 2 with (go_at_call 26; refine (HSZ.out w1 HB1.out).mono ?_; rintro e w2 ⟨rfl, hB2⟩)
  have HF2 := Lib.hid (HF1.out.up hB2)
  have HB2 := Lib.hid (HB1.out.trans (hB2.mono HB1.out.size))
  clear hB2 HF1 HB1 x0 x1 x2 x3 HSZ
  by_cases h0 : se = 0
  case neg =>
    have t0 : (se != 0) = true := by rw [bne_iff_ne]; exact h0
    have HXE := Lib.hid (show encE k = se by unfold encE; rw [← HSE.out, if_pos h0])
    have hne := Lib.hid h0
    clear h0
    go_wp2_with fail
    go_ret2
    exact ⟨HB2.out, _, by rw [HXE.out]; rfl, by rw [HXE.out, if_neg hne.out]; rfl⟩
  subst h0
  have HS0 := Lib.hid HSE.out.symm
  have HE0 := Lib.hid (show encE k = if 131072 < (encW k).length then 2 else 0 by unfold encE; rw [HS0.out]; simp)
  clear HSE
  have y4 : w2.cell? ⟨g, 4, none⟩ = some (.slice Ac nc cc) := by rw [HF2.out.cell 4 (by decide), HX.out]; rfl
  by_cases hcb : 131072 < nc
  · have t1 : decide (131072 < (nc : Int)) = true := decide_eq_true (by omega)
    have HXE := Lib.hid (show encE k = 2 by
      rw [HE0.out, if_pos]
      have h1 := HCO.out.len.out
      have h2 : k.code.length ≤ (encW k).length := by
        unfold encW
        rw [body_at, List.length_append, List.length_append, List.length_append, List.length_append, List.length_append]
        have h3 : k.code.length ≤ (rst k 0).length := by
          show _ ≤ (sec 2 (tabB k.tabs) ++ (sec 3 k.data ++ sec 4 k.code)).length
          have h4 : k.code.length ≤ (sec 4 k.code).length := by
            unfold sec
            split
            · next e => rw [e]; exact Nat.zero_le _
            · simp; omega
          rw [List.length_append, List.length_append]
          omega
        omega
      omega)
    clear hcb
    go_wp2_with fail
    go_ret2
    exact ⟨HB2.out, _, by rw [HXE.out]; rfl, by rw [HXE.out, if_neg (by decide)]; rfl⟩
  have t1 : decide (131072 < (nc : Int)) = false := decide_eq_false (by omega)
  have HNC := Lib.hid (show nc ≤ 131072 by omega)
  clear hcb
  have HZ := Lib.hid (sizes_zero HS0.out)
  have HO := Lib.hid (OwnB.nil w2 w2.heap.size)
  have HTW := Lib.hid (HTB.out.up HB2.out)
  go_wp2_with fail
  go_loopw [5, 6, 26, 27, 28, 29, 30, 31, 32, 33, 34, 35, 36, 37, 38, 39, 40, 41, 42, 43, 44, 45, 46, 47, 48, 49] (fun a5 a6 _ _ _ _ _ _ _ _ _ _ _ _ _ _ _ _ _ _ _ _ _ _ _ _ wr => ∃ (j : Nat) (M : List Int), a6 = .int .i64 j ∧ j ≤ nt ∧ Hid (M.length = 2 * j) ∧ Hid (M ++ tabB (k.tabs.drop j) = tabB k.tabs) ∧ OwnB wr w2.heap.size a5 M ∧ Below w2.heap.size w2 wr) (fun _ a6 _ _ _ _ _ _ _ _ _ _ _ _ _ _ _ _ _ _ _ _ _ _ _ _ _ => (nt - intOf a6).toNat)
  case atStart => exact ⟨0, [], rfl, Nat.zero_le _, Lib.hid rfl, Lib.hid rfl, HO.out, Below.refl _ _⟩
  case round =>
    obtain ⟨j, M, rfl, hj, HML, HE, hO, hB⟩ := hrel
    clear HO
    have HO := Lib.hid hO
    have HB := Lib.hid hB
    clear hO hB
    have HFR := Lib.hid (HF2.out.up HB.out)
    have y3 : wr.cell? ⟨g, 3, none⟩ = some (.slice At nt ct) := by rw [HFR.out.cell 3 (by decide), HX.out]; rfl
    by_cases hlt : j < nt
    · have hlt' : (j : Int) < nt := by omega
      obtain ⟨x, hx, hdr⟩ := drop_cons (l := k.tabs) (j := j) (by have := HTW.out.len.out; omega)
      rw [hdr] at HE
      obtain ⟨bt, offt, rfl, hblt, hcell⟩ := HTW.out.row (by have := HTW.out.len.out; omega)
      obtain ⟨r, d⟩ := x
      have HR5 := Lib.hid (show ReS g bt offt nt ct j r d w2 from ⟨by rw [HF2.out.cell 3 (by decide), HX.out]; rfl, hcell j (r, d) hx 0 (by decide), hcell j (r, d) hx 1 (by decide), HF2.out.lt, hblt⟩)
      clear hdr hcell hx
      go_upto_region 10 with fail
      obtain ⟨W, hW⟩ : ∃ W, W = wr.drew := ⟨_, rfl⟩
      have hbw : Below wr.heap.size wr W := by rw [hW]; exact below_drewN (Below.refl _ _) 1
      have HSW := Lib.hid (HR5.out.up (HB.out.trans (hbw.mono HB.out.size)))
      have HOW := Lib.hid (ownB_up HO.out hbw)
      have HBW := Lib.hid (HB.out.trans (hbw.mono HB.out.size))
      have e1 := u8_wrap r
      have e2 := u8_wrap d
      have hbx := below_box W (.cells #[.int .u8 (r % 256), .int .u8 (d % 256)] 5)
      have HO4 := Lib.hid (ownB_up HOW.out hbx)
      have HB4 := Lib.hid (HBW.out.trans (hbx.mono HBW.out.size))
      have HBX := Lib.hid (show BytesAt (W.alloc (.cells #[.int .u8 (r % 256), .int .u8 (d % 256)] 5)) (some ⟨wr.heap.size, 0, none⟩) [r % 256, d % 256] from by have h5 := bytes_box2 W (r % 256) (d % 256); rw [show W.heap.size = wr.heap.size by rw [hW]; rfl] at h5; exact h5)
      have HWW := Lib.hid (show (wr.alloc (.cells #[.int .u8 (r % 256), .int .u8 (d % 256)] 5)).drew = W.alloc (.cells #[.int .u8 (r % 256), .int .u8 (d % 256)] 5) by rw [hW]; rfl)
      have HSX := Lib.hid (HSW.out.up hbx)
      have hnt : nt ≤ 8 := by have h5 := HZ.out.2.2.2.1; have h6 := HTW.out.len.out; omega
      have HLE := Lib.hid (show M.length + 2 ≤ 140737488355328 by have := HML.out; omega)
      have HE2 := Lib.hid (show (M ++ [r % 256, d % 256]) ++ tabB (k.tabs.drop (j + 1)) = tabB k.tabs by rw [← HE.out, tabB_cons, List.append_assoc]; rfl)
      obtain ⟨A3, c3, hv3, -⟩ := HOW.out.form
      subst hv3
      obtain ⟨q, hq⟩ : ∃ q, q = M.length := ⟨_, rfl⟩
      rw [← hq] at HO4 HOW ⊢
      have HS4 := Lib.hid HB4.out.size
      have HMM := Lib.hid (show (M ++ [r % 256, d % 256]).length = 2 * (j + 1) by have := HML.out; simp; omega)
      clear hbx HE hq HOW HO hbw y3 hblt
      refine wp_region_held_drew (S := fun W => ReS g bt offt nt ct j r d W) (by kernel_rfl) (by show ReS g bt offt nt ct j r d wr.drew; rw [← hW]; exact HSW.out) (fun hHeld => ?_)
      refine wpAnyH_take (i := 0) (oi := { dst := some 33, op := Op.move (Operand.tmp 5), type := 22, pos := "ref.go:78", after := #[], guard := none }) (v := .slice A3 q c3) rfl (by kernel_rfl) (by kernel_rfl) (by kernel_rfl) (fun _ _ _ h => h) (Or.inl ⟨by rfl, ?_⟩) (by assumption) ?_
      · intro w hSw
        have q0 := hSw.z3
        have q1 := hSw.c0
        have q2 := hSw.c1
        go_simp
      try simp only [Act.put, List.setIfInBounds_toArray, List.set_cons_zero, List.set_cons_succ]
      refine wpAnyH_take (i := 1) (oi := { dst := some 34, op := Op.fieldAddr 25 (Operand.tmp 1) 3, type := 0, pos := "ref.go:78", after := #[], guard := none }) (v := .pointer (some ⟨g, 3, none⟩)) rfl (by kernel_rfl) (by kernel_rfl) (by kernel_rfl) (fun _ _ _ h => h) (Or.inl ⟨by rfl, ?_⟩) (by assumption) ?_
      · intro w hSw
        have q0 := hSw.z3
        have q1 := hSw.c0
        have q2 := hSw.c1
        go_simp
      try simp only [Act.put, List.setIfInBounds_toArray, List.set_cons_zero, List.set_cons_succ]
      refine wpAnyH_take (i := 2) (oi := { dst := some 35, op := Op.load 23 (Operand.tmp 34), type := 23, pos := "ref.go:78", after := #[{ on := 1, ground := Ground.data }], guard := none }) (v := .slice (some ⟨bt, offt, none⟩) nt ct) rfl (by kernel_rfl) (by kernel_rfl) (by kernel_rfl) (fun _ _ _ h => h) (Or.inl ⟨by rfl, ?_⟩) (by assumption) ?_
      · intro w hSw
        have q0 := hSw.z3
        have q1 := hSw.c0
        have q2 := hSw.c1
        go_simp
      try simp only [Act.put, List.setIfInBounds_toArray, List.set_cons_zero, List.set_cons_succ]
      refine wpAnyH_take (i := 3) (oi := { dst := some 36, op := Op.move (Operand.tmp 6), type := 3, pos := "ref.go:78", after := #[], guard := none }) (v := .int .i64 j) rfl (by kernel_rfl) (by kernel_rfl) (by kernel_rfl) (fun _ _ _ h => h) (Or.inl ⟨by rfl, ?_⟩) (by assumption) ?_
      · intro w hSw
        have q0 := hSw.z3
        have q1 := hSw.c0
        have q2 := hSw.c1
        go_simp
      try simp only [Act.put, List.setIfInBounds_toArray, List.set_cons_zero, List.set_cons_succ]
      refine wpAnyH_take (i := 4) (oi := { dst := some 37, op := Op.indexAddr 23 (Operand.tmp 35) (Operand.tmp 36), type := 0, pos := "ref.go:78", after := #[{ on := 2, ground := Ground.data }, { on := 3, ground := Ground.data }], guard := none }) (v := .pointer (some ⟨bt, offt + j * 2, none⟩)) rfl (by kernel_rfl) (by kernel_rfl) (by kernel_rfl) (fun _ _ _ h => h) (Or.inl ⟨by rfl, ?_⟩) (by assumption) ?_
      · intro w hSw
        have q0 := hSw.z3
        have q1 := hSw.c0
        have q2 := hSw.c1
        go_simp
      try simp only [Act.put, List.setIfInBounds_toArray, List.set_cons_zero, List.set_cons_succ]
      refine wpAnyH_take (i := 5) (oi := { dst := some 38, op := Op.fieldAddr 60 (Operand.tmp 37) 0, type := 0, pos := "ref.go:78", after := #[{ on := 4, ground := Ground.data }], guard := none }) (v := .pointer (some ⟨bt, offt + j * 2, none⟩)) rfl (by kernel_rfl) (by kernel_rfl) (by kernel_rfl) (fun _ _ _ h => h) (Or.inl ⟨by rfl, ?_⟩) (by assumption) ?_
      · intro w hSw
        have q0 := hSw.z3
        have q1 := hSw.c0
        have q2 := hSw.c1
        go_simp
      try simp only [Act.put, List.setIfInBounds_toArray, List.set_cons_zero, List.set_cons_succ]
      refine wpAnyH_take (i := 6) (oi := { dst := some 39, op := Op.load 3 (Operand.tmp 38), type := 3, pos := "ref.go:78", after := #[{ on := 5, ground := Ground.data }], guard := none }) (v := .int .i64 r) rfl (by kernel_rfl) (by kernel_rfl) (by kernel_rfl) (fun _ _ _ h => h) (Or.inl ⟨by rfl, ?_⟩) (by assumption) ?_
      · intro w hSw
        have q0 := hSw.z3
        have q1 := hSw.c0
        have q2 := hSw.c1
        go_simp
      try simp only [Act.put, List.setIfInBounds_toArray, List.set_cons_zero, List.set_cons_succ]
      refine wpAnyH_take (i := 7) (oi := { dst := some 40, op := Op.convert 3 5 (Operand.tmp 39), type := 5, pos := "ref.go:78", after := #[{ on := 6, ground := Ground.data }], guard := none }) (v := .int .u8 (r % 256)) rfl (by kernel_rfl) (by kernel_rfl) (by kernel_rfl) (fun _ _ _ h => h) (Or.inl ⟨by rfl, ?_⟩) (by assumption) ?_
      · intro w hSw
        have q0 := hSw.z3
        have q1 := hSw.c0
        have q2 := hSw.c1
        go_simp
      try simp only [Act.put, List.setIfInBounds_toArray, List.set_cons_zero, List.set_cons_succ]
      refine wpAnyH_take (i := 8) (oi := { dst := some 41, op := Op.fieldAddr 25 (Operand.tmp 1) 3, type := 0, pos := "ref.go:78", after := #[], guard := none }) (v := .pointer (some ⟨g, 3, none⟩)) rfl (by kernel_rfl) (by kernel_rfl) (by kernel_rfl) (fun _ _ _ h => h) (Or.inl ⟨by rfl, ?_⟩) (by assumption) ?_
      · intro w hSw
        have q0 := hSw.z3
        have q1 := hSw.c0
        have q2 := hSw.c1
        go_simp
      try simp only [Act.put, List.setIfInBounds_toArray, List.set_cons_zero, List.set_cons_succ]
      refine wpAnyH_take (i := 9) (oi := { dst := some 42, op := Op.load 23 (Operand.tmp 41), type := 23, pos := "ref.go:78", after := #[{ on := 8, ground := Ground.data }], guard := none }) (v := .slice (some ⟨bt, offt, none⟩) nt ct) rfl (by kernel_rfl) (by kernel_rfl) (by kernel_rfl) (fun _ _ _ h => h) (Or.inl ⟨by rfl, ?_⟩) (by assumption) ?_
      · intro w hSw
        have q0 := hSw.z3
        have q1 := hSw.c0
        have q2 := hSw.c1
        go_simp
      try simp only [Act.put, List.setIfInBounds_toArray, List.set_cons_zero, List.set_cons_succ]
      refine wpAnyH_take (i := 10) (oi := { dst := some 43, op := Op.move (Operand.tmp 6), type := 3, pos := "ref.go:78", after := #[], guard := none }) (v := .int .i64 j) rfl (by kernel_rfl) (by kernel_rfl) (by kernel_rfl) (fun _ _ _ h => h) (Or.inl ⟨by rfl, ?_⟩) (by assumption) ?_
      · intro w hSw
        have q0 := hSw.z3
        have q1 := hSw.c0
        have q2 := hSw.c1
        go_simp
      try simp only [Act.put, List.setIfInBounds_toArray, List.set_cons_zero, List.set_cons_succ]
      refine wpAnyH_take (i := 11) (oi := { dst := some 44, op := Op.indexAddr 23 (Operand.tmp 42) (Operand.tmp 43), type := 0, pos := "ref.go:78", after := #[{ on := 9, ground := Ground.data }, { on := 10, ground := Ground.data }], guard := none }) (v := .pointer (some ⟨bt, offt + j * 2, none⟩)) rfl (by kernel_rfl) (by kernel_rfl) (by kernel_rfl) (fun _ _ _ h => h) (Or.inl ⟨by rfl, ?_⟩) (by assumption) ?_
      · intro w hSw
        have q0 := hSw.z3
        have q1 := hSw.c0
        have q2 := hSw.c1
        go_simp
      try simp only [Act.put, List.setIfInBounds_toArray, List.set_cons_zero, List.set_cons_succ]
      refine wpAnyH_take (i := 12) (oi := { dst := some 45, op := Op.fieldAddr 60 (Operand.tmp 44) 1, type := 0, pos := "ref.go:78", after := #[{ on := 11, ground := Ground.data }], guard := none }) (v := .pointer (some ⟨bt, offt + j * 2 + 1, none⟩)) rfl (by kernel_rfl) (by kernel_rfl) (by kernel_rfl) (fun _ _ _ h => h) (Or.inl ⟨by rfl, ?_⟩) (by assumption) ?_
      · intro w hSw
        have q0 := hSw.z3
        have q1 := hSw.c0
        have q2 := hSw.c1
        go_simp
      try simp only [Act.put, List.setIfInBounds_toArray, List.set_cons_zero, List.set_cons_succ]
      refine wpAnyH_take (i := 13) (oi := { dst := some 46, op := Op.load 3 (Operand.tmp 45), type := 3, pos := "ref.go:78", after := #[{ on := 12, ground := Ground.data }], guard := none }) (v := .int .i64 d) rfl (by kernel_rfl) (by kernel_rfl) (by kernel_rfl) (fun _ _ _ h => h) (Or.inl ⟨by rfl, ?_⟩) (by assumption) ?_
      · intro w hSw
        have q0 := hSw.z3
        have q1 := hSw.c0
        have q2 := hSw.c1
        go_simp
      try simp only [Act.put, List.setIfInBounds_toArray, List.set_cons_zero, List.set_cons_succ]
      refine wpAnyH_take (i := 14) (oi := { dst := some 47, op := Op.convert 3 5 (Operand.tmp 46), type := 5, pos := "ref.go:78", after := #[{ on := 13, ground := Ground.data }], guard := none }) (v := .int .u8 (d % 256)) rfl (by kernel_rfl) (by kernel_rfl) (by kernel_rfl) (fun _ _ _ h => h) (Or.inl ⟨by rfl, ?_⟩) (by assumption) ?_
      · intro w hSw
        have q0 := hSw.z3
        have q1 := hSw.c0
        have q2 := hSw.c1
        go_simp
      try simp only [Act.put, List.setIfInBounds_toArray, List.set_cons_zero, List.set_cons_succ]
      refine wpAnyH_ready (rs := [15]) (by kernel_rfl) (by simp) ?_
      refine AllReadyH.cons (o := { dst := some 48, op := Op.buildSlice 22 2 #[(0, Operand.tmp 40), (1, Operand.tmp 47)], type := 22, pos := "ref.go:78", after := #[{ on := 7, ground := Ground.data }, { on := 14, ground := Ground.data }], guard := none }) rfl ?_ ?_
      rotate_left
      · exact AllReadyH.nil
      intro K hK
      go_simp
      rw [HWW.out]
      refine hK.out _ _ HSX.out (fun hHeld => ?_)
      clear hK K
      try simp only [Act.put, List.setIfInBounds_toArray, List.set_cons_zero, List.set_cons_succ]
      refine wpAnyH_ready (rs := [16]) (by kernel_rfl) (by simp) ?_
      refine AllReadyH.cons (o := { dst := some 49, op := Op.call { callee := Callee.builtin Builtin.append, args := #[Operand.tmp 33, Operand.tmp 48], argTypes := #[22, 22] }, type := 22, pos := "ref.go:78", after := #[{ on := 0, ground := Ground.data }, { on := 15, ground := Ground.data }], guard := none }) rfl ?_ ?_
      rotate_left
      · exact AllReadyH.nil
      intro K hK
      refine step_append_bytesE rfl (.tmp 33) (.tmp 48) rfl w2.heap.size _ M rfl HO4.out _ 2 2 [r % 256, d % 256] rfl rfl HBX.out HLE.out HS4.out ?_
      intro v9 w9 hown9 hg9
      have hUT := UT.grown hg9 HO4.out HS4.out
      have HO9 := Lib.hid hown9
      have HB9 := Lib.hid (HB4.out.trans hUT.below)
      have HS9 := Lib.hid (show ReS g bt offt nt ct j r d w9 from HR5.out.up HB9.out)
      clear hown9 hg9 hUT hHeld
      obtain ⟨A9, c9, hv9, -⟩ := HO9.out.form
      subst hv9
      obtain ⟨q9, hq9⟩ : ∃ q9, q9 = (M ++ [r % 256, d % 256]).length := ⟨_, rfl⟩
      rw [← hq9] at HO9 ⊢
      clear hq9
      refine hK.out _ _ HS9.out (fun hHeld => ?_)
      clear hK K
      try simp only [Act.put, List.setIfInBounds_toArray, List.set_cons_zero, List.set_cons_succ]
      refine wpAnyH_ready (rs := [17]) (by kernel_rfl) (by simp) ?_
      refine AllReadyH.cons (o := { dst := some 5, op := Op.assign (Operand.tmp 49), type := 22, pos := "ref.go:78", after := #[{ on := 16, ground := Ground.data }, { on := 16, ground := Ground.chain }, { on := 0, ground := Ground.phase }, { on := 1, ground := Ground.phase }, { on := 2, ground := Ground.phase }, { on := 3, ground := Ground.phase }, { on := 4, ground := Ground.phase }, { on := 5, ground := Ground.phase }, { on := 6, ground := Ground.phase }, { on := 7, ground := Ground.phase }, { on := 8, ground := Ground.phase }, { on := 9, ground := Ground.phase }, { on := 10, ground := Ground.phase }, { on := 11, ground := Ground.phase }, { on := 12, ground := Ground.phase }, { on := 13, ground := Ground.phase }, { on := 14, ground := Ground.phase }, { on := 15, ground := Ground.phase }, { on := 16, ground := Ground.phase }], guard := none }) rfl ?_ ?_
      rotate_left
      · exact AllReadyH.nil
      intro K hK
      go_simp
      refine hK.out _ _ HS9.out (fun hHeld => ?_)
      clear hK K
      try simp only [Act.put, List.setIfInBounds_toArray, List.set_cons_zero, List.set_cons_succ]
      clear hHeld
      refine wpAnyH_done (by kernel_rfl) ?_ _
      go_wp2_with fail
      go_roundw
      case rel => exact ⟨j + 1, M ++ [r % 256, d % 256], by go_num, by omega, HMM, HE2, HO9.out, HB9.out⟩
      case measure => simp [intOf]; omega
    · obtain rfl : j = nt := by omega
      have HE2 := Lib.hid (show M = tabB k.tabs by rw [← HE.out, List.drop_of_length_le (by have := HTW.out.len.out; omega)]; exact (List.append_nil _).symm)
      obtain ⟨A3, n3, c3, rfl, hSl⟩ := own_full HO.out
      rw [HE2.out] at hSl
      have HT3 := Lib.hid hSl
      obtain ⟨w6, rfl⟩ : ∃ u, u = wr := ⟨_, rfl⟩
      have HB6 := Lib.hid (HB2.out.trans (HB.out.mono HB2.out.size))
      have HD6 := Lib.hid (HDA.out.up HB6.out)
      have HC6 := Lib.hid (HCO.out.up HB6.out)
      have HF6 := HFR
      clear hSl hlt HE HML HE2 HO HB HTW HTB HDA HCO HB2 HF2 hj HFR
      have HLO := Lib.hid (show (0 ≤ k.lo ∧ k.lo ≤ 9223372036854775807) ∧ (0 ≤ k.hi ∧ k.hi ≤ 9223372036854775807) by have := HZ.out; omega)
      have HO7 := Lib.hid (show OwnB (w6.alloc (.cells #[Value.int .u8 87, Value.int .u8 80, Value.int .u8 75, Value.int .u8 49, Value.int .u8 1, Value.int .u8 4, Value.int .u8 0, Value.int .u8 0] 5)) w6.heap.size (.slice (some ⟨w6.heap.size, 0, none⟩) 8 8) [87, 80, 75, 49, 1, 4, 0, 0] from own_box w6 [87, 80, 75, 49, 1, 4, 0, 0] 8 rfl (by unfold maxLen; decide))
      have HB7 := Lib.hid (below_box w6 (.cells #[Value.int .u8 87, Value.int .u8 80, Value.int .u8 75, Value.int .u8 49, Value.int .u8 1, Value.int .u8 4, Value.int .u8 0, Value.int .u8 0] 5))
      have HF7 := Lib.hid (HF6.out.up HB7.out)
      go_upto_region 12 with fail
      obtain ⟨w7, hw7⟩ : ∃ u, u = w6.alloc (.cells #[Value.int .u8 87, Value.int .u8 80, Value.int .u8 75, Value.int .u8 49, Value.int .u8 1, Value.int .u8 4, Value.int .u8 0, Value.int .u8 0] 5) := ⟨_, rfl⟩
      obtain ⟨v7, hv7⟩ : ∃ u, u = Value.slice (some ⟨w6.heap.size, 0, none⟩) 8 8 := ⟨_, rfl⟩
      rw [← hw7, ← hv7] at HO7
      rw [← hw7] at HB7 HF7 ⊢
      rw [← hv7]
      clear hw7 hv7 y3
      have y0 : w7.cell? ⟨g, 0, none⟩ = some (.int .i64 k.lo) := by rw [HF7.out.cell 0 (by decide), HX.out]; rfl
      go_upto_region 13 with (first
        | (go_at_call 27; refine (rlow_any _ k.lo 2 HLO.out.1 (by decide)).mono ?_; rintro e w8 ⟨v8, rfl, hO8, hB8⟩; obtain ⟨A8, n8, c8, rfl, hS8⟩ := own_full hO8; have HS8 := Lib.hid hS8; have HO8 := Lib.hid (ownB_up HO7.out hB8); have HB8 := Lib.hid (HB7.out.trans (hB8.mono HB7.out.size)); have HF9_ := Lib.hid (HF7.out.up hB8); clear hO8 hB8 hS8)
        | (at_builtin; refine append_bytesG Try.underlying22 byte_info _ rfl (.tmp 51) (.tmp 54) rfl w6.heap.size _ [87, 80, 75, 49, 1, 4, 0, 0] rfl HO8.out A8 n8 c8 (le k.lo 2) rfl HS8.out.len.out HS8.out.byt (by rw [← HS8.out.len.out, le_len]; decide) HB8.out.size ?_; intro v9 w9 hO9 hg9; have hU9 := UT.grown hg9 HO8.out HB8.out.size; have HO9 := Lib.hid hO9; have HB9 := Lib.hid (HB8.out.trans hU9.below); have HF9 := Lib.hid (hU9.fb HF9_.out (by decide)); clear hO9 hg9 hU9))
      have y1 : w9.cell? ⟨g, 1, none⟩ = some (.int .i64 k.hi) := by rw [HF9.out.cell 1 (by decide), HX.out]; rfl
      clear y0
      go_upto_region 14 with (first
        | (go_at_call 27; refine (rlow_any _ k.hi 2 HLO.out.2 (by decide)).mono ?_; rintro e w10 ⟨v10, rfl, hO10, hB10⟩; obtain ⟨A10, n10, c10, rfl, hS10⟩ := own_full hO10; have HS10 := Lib.hid hS10; have HO10 := Lib.hid (ownB_up HO9.out hB10); have HB10 := Lib.hid (HB9.out.trans (hB10.mono HB9.out.size)); have HF11_ := Lib.hid (HF9.out.up hB10); clear hO10 hB10 hS10)
        | (at_builtin; refine append_bytesG Try.underlying22 byte_info _ rfl (.tmp 56) (.tmp 59) rfl w6.heap.size _ ([87, 80, 75, 49, 1, 4, 0, 0] ++ le k.lo 2) rfl HO10.out A10 n10 c10 (le k.hi 2) rfl HS10.out.len.out HS10.out.byt (by rw [← HS10.out.len.out]; simp [le_len]) HB10.out.size ?_; intro v11 w11 hO11 hg11; have hU11 := UT.grown hg11 HO10.out HB10.out.size; have HO11 := Lib.hid hO11; have HB11 := Lib.hid (HB10.out.trans hU11.below); have HF11 := Lib.hid (hU11.fb HF11_.out (by decide)); clear hO11 hg11 hU11))
      have y2 : w11.cell? ⟨g, 2, none⟩ = some (.slice Ad nd cd) := by rw [HF11.out.cell 2 (by decide), HX.out]; rfl
      have y4 : w11.cell? ⟨g, 4, none⟩ = some (.slice Ac nc cc) := by rw [HF11.out.cell 4 (by decide), HX.out]; rfl
      clear y1 HO7 HB7 HF7 HO8 HB8 HS8 HF9_ HO9 HB9 HF9 HO10 HB10 HS10 HF11_
      have HQ12 := Lib.hid (show FB (w11.alloc (.cells #[Value.slice A3 n3 c3, Value.slice Ad nd cd, Value.slice Ac nc cc] 22)) w11.heap.size 22 3 (box3 (Value.slice A3 n3 c3) (Value.slice Ad nd cd) (Value.slice Ac nc cc)) from FB.new w11 _ 3 (box3 (Value.slice A3 n3 c3) (Value.slice Ad nd cd) (Value.slice Ac nc cc)))
      have hbx := below_box w11 (.cells #[Value.slice A3 n3 c3, Value.slice Ad nd cd, Value.slice Ac nc cc] 22)
      have HO12 := Lib.hid (ownB_up HO11.out hbx)
      have HB12 := Lib.hid (HB11.out.trans (hbx.mono HB11.out.size))
      clear hbx
      go_upto_region 15 with fail
      obtain ⟨w12, hw12⟩ : ∃ u, u = w11.alloc (.cells #[Value.slice A3 n3 c3, Value.slice Ad nd cd, Value.slice Ac nc cc] 22) := ⟨_, rfl⟩
      obtain ⟨h, hh⟩ : ∃ u, u = w11.heap.size := ⟨_, rfl⟩
      rw [← hw12, ← hh] at HQ12 ⊢
      rw [← hw12] at HO12 HB12
      clear hw12 hh y2 y4 HO11 HB11 HF11
      obtain ⟨B, hB3⟩ : ∃ B, B = box3 (Value.slice A3 n3 c3) (Value.slice Ad nd cd) (Value.slice Ac nc cc) := ⟨_, rfl⟩
      rw [← hB3] at HQ12
      have HBX3 := Lib.hid hB3
      clear hB3
      have HPR := Lib.hid (show ∀ j, j < 3 → ∃ A n c, B j = Value.slice A n c ∧ Sl w6 A n c (prt k j) from fun j hj => by
        rw [HBX3.out]
        rcases (show j = 0 ∨ j = 1 ∨ j = 2 by omega) with rfl | rfl | rfl
        · exact ⟨_, _, _, rfl, HT3.out⟩
        · exact ⟨_, _, _, rfl, HD6.out⟩
        · exact ⟨_, _, _, rfl, HC6.out⟩)
      have HBL := Lib.hid (show (bodyW k).length ≤ 200000 by
        have h1 := body_le k
        have h2 := HZ.out
        have h3 := HNC.out
        have h4 := HC6.out.len.out
        omega)
      have HE12 := Lib.hid (show (([87, 80, 75, 49, 1, 4, 0, 0] ++ le k.lo 2) ++ le k.hi 2) ++ rst k 0 = bodyW k by rw [body_at]; simp only [List.append_assoc]; rfl)
      obtain ⟨M0, hM0⟩ : ∃ M, M = (([87, 80, 75, 49, 1, 4, 0, 0] ++ le k.lo 2) ++ le k.hi 2 : List Int) := ⟨_, rfl⟩
      rw [← hM0] at HE12 HO12
      clear hM0 HT3 HD6 HC6 HF6 HLO HBX3
      go_wp2_with fail
      go_loopw [7, 9, 67, 68, 69, 70, 71, 72, 73, 74, 75, 76, 77, 78, 79, 80, 81, 82, 83, 84, 85, 86, 87, 88, 89, 90, 91, 92, 93, 94, 95, 96] (fun a7 a9 _ _ _ _ _ _ _ _ _ _ _ _ _ _ _ _ _ _ _ _ _ _ _ _ _ _ _ _ _ _ wq => ∃ (j : Nat) (M : List Int), a9 = .int .i64 j ∧ j ≤ 3 ∧ Hid (M ++ rst k j = bodyW k) ∧ OwnB wq w6.heap.size a7 M ∧ FB wq h 22 3 B ∧ Below w6.heap.size w6 wq) (fun _ a9 _ _ _ _ _ _ _ _ _ _ _ _ _ _ _ _ _ _ _ _ _ _ _ _ _ _ _ _ _ _ _ => (3 - intOf a9).toNat)
      case atStart => exact ⟨0, M0, rfl, by decide, HE12, HO12.out, HQ12.out, HB12.out⟩
      case round =>
        obtain ⟨i, M, rfl, hi, HE, hO, hQ, hB⟩ := hrel
        clear HE12 HO12 HQ12 HB12
        have HO := Lib.hid hO
        have HQ := Lib.hid hQ
        have HB := Lib.hid hB
        clear hO hQ hB
        by_cases hlt : i < 3
        case neg =>
          obtain rfl : i = 3 := by omega
          have HM := Lib.hid (show M = bodyW k by rw [← HE.out]; exact (List.append_nil M).symm)
          obtain ⟨AM, nM, cM, hvM, hSM⟩ := own_full HO.out
          subst hvM
          rw [HM.out] at HO hSM
          have HSM := Lib.hid hSM
          have HBY := Lib.hid (show Bytes (bodyW k) from fun x hx => enc_bytes HD.out HC.out x (List.mem_append_left _ hx))
          have HNM := Lib.hid (show nM ≤ 200000 by have h1 := hSM.len.out; have h2 := HBL.out; omega)
          have hsum := sumN_lt (bodyW k)
          clear hSM hlt HE HM HPR
          obtain ⟨sm, hsm⟩ : ∃ s, s = sumN (bodyW k) := ⟨_, rfl⟩
          have HSU := Lib.hid (rsum_any wr AM nM cM (bodyW k) HSM.out.len.out (by have := HNM.out; omega) HBY.out HSM.out.byt)
          have HEN := Lib.hid (show bodyW k ++ le (sm : Int) 4 = encW k by rw [hsm]; rfl)
          rw [← hsm] at HSU hsum
          have HSR := Lib.hid (show 0 ≤ (sm : Int) ∧ (sm : Int) ≤ 9223372036854775807 by omega)
          have HLL := Lib.hid (show (bodyW k).length + 4 ≤ 140737488355328 by have := HBL.out; omega)
          clear hsm hsum
          go_upto_region 23 with (first
            | (go_at_call 28; refine HSU.out.mono ?_; rintro e w13 ⟨rfl, hB13⟩; have HO13 := Lib.hid (ownB_up HO.out hB13); have HB13 := Lib.hid (HB.out.trans (hB13.mono HB.out.size)); clear hB13)
            | (go_at_call 27; refine (rlow_any _ (sm : Int) 4 HSR.out (by decide)).mono ?_; rintro e w14 ⟨v14, rfl, hO14, hB14⟩; obtain ⟨A14, n14, c14, rfl, hS14⟩ := own_full hO14; have HS14 := Lib.hid hS14; have HO14 := Lib.hid (ownB_up HO13.out hB14); have HB14 := Lib.hid (HB13.out.trans (hB14.mono HB13.out.size)); clear hO14 hB14 hS14)
            | (at_builtin; refine append_bytesG Try.underlying22 byte_info _ rfl (.tmp 97) (.tmp 100) rfl w6.heap.size _ (bodyW k) rfl HO14.out A14 n14 c14 (le (sm : Int) 4) rfl HS14.out.len.out HS14.out.byt (by rw [← HS14.out.len.out, le_len]; exact HLL.out) HB14.out.size ?_; intro v15 w15 hO15 hg15; have hU15 := UT.grown hg15 HO14.out HB14.out.size; have HB15 := Lib.hid (HB14.out.trans hU15.below); rw [HEN.out] at hO15; have HO15 := Lib.hid hO15; clear hO15 hg15 hU15))
          obtain ⟨A15, n15, c15, hv15, hS15⟩ := own_full HO15.out
          subst hv15
          have HL15 := Lib.hid hS15.len.out
          have HBW := Lib.hid (HB6.out.trans (HB15.out.mono HB6.out.size))
          clear hS15 HO13 HB13 HO14 HB14 HS14 HSU HO HB HQ HSM
          by_cases hbig : 131072 < n15
          · have tb : decide (131072 < (n15 : Int)) = true := decide_eq_true (by omega)
            have HXE := Lib.hid (show encE k = 2 by rw [HE0.out, if_pos (by rw [HL15.out]; exact hbig)])
            clear hbig
            go_wp2_with fail
            go_ret2
            exact ⟨HBW.out, _, by rw [HXE.out]; rfl, by rw [HXE.out, if_neg (by decide)]; rfl⟩
          · have tb : decide (131072 < (n15 : Int)) = false := decide_eq_false (by omega)
            have HXE := Lib.hid (show encE k = 0 by rw [HE0.out, if_neg (by rw [HL15.out]; exact hbig)])
            clear hbig
            go_wp2_with fail
            go_ret2
            exact ⟨HBW.out, _, by rw [HXE.out]; rfl, by rw [if_pos HXE.out]; exact OwnB_base HO15.out HB6.out.size⟩
        obtain ⟨A, np, c, hbj, hSl⟩ := HPR.out i hlt
        have hlt' : (i : Int) < 3 := by omega
        have y0 : wr.cell? ⟨h, i, none⟩ = some (.slice A np c) := by rw [HQ.out.cell i hlt, hbj]
        have HSL := Lib.hid (hSl.up HB.out)
        have hnp := hSl.len.out
        have HBJ := Lib.hid hbj
        clear hbj hSl
        by_cases h0 : np = 0
        · have t0 : decide (0 < (np : Int)) = false := decide_eq_false (by omega)
          have t0' : decide (0 < np) = false := decide_eq_false (by omega)
          have t0'' : ¬ 0 < np := by omega
          have HE2 := Lib.hid (show M ++ rst k (i + 1) = bodyW k by rw [← rst_none hlt (List.eq_nil_of_length_eq_zero (by omega))]; exact HE.out)
          clear h0 hnp HE HSL HBJ
          go_wp2_with fail
          go_roundw
          case rel => exact ⟨i + 1, M, by go_num, by omega, HE2, HO.out, HQ.out, HB.out⟩
          case measure => simp [intOf]; omega
        · have t0 : decide (0 < (np : Int)) = true := decide_eq_true (by omega)
          have t0' : decide (0 < np) = true := decide_eq_true (by omega)
          have t0'' : 0 < np := by omega
          have hne : prt k i ≠ [] := fun e => by rw [e] at hnp; exact h0 hnp.symm
          have hrs := rst_some hlt hne
          have hME := HE.out
          rw [hrs, hnp] at hME
          have hlen := congrArg List.length hME
          simp only [List.length_append, le_len, hnp, List.length_cons, List.length_nil] at hlen
          have hbl := HBL.out
          have HL1 := Lib.hid (show M.length + 1 ≤ 140737488355328 by omega)
          have HL2 := Lib.hid (show (M ++ [(2 + i : Int)]).length + 3 ≤ 140737488355328 by simp; omega)
          have HL3 := Lib.hid (show ((M ++ [(2 + i : Int)]) ++ le (np : Int) 3).length + np ≤ 140737488355328 by simp [le_len]; omega)
          have HNP := Lib.hid (show 0 ≤ (np : Int) ∧ (np : Int) ≤ 9223372036854775807 by omega)
          have HE2 := Lib.hid (show (((M ++ [(2 + i : Int)]) ++ le (np : Int) 3) ++ prt k i) ++ rst k (i + 1) = bodyW k by rw [← hME]; simp only [List.append_assoc])
          have e1 : IntKind.u8.wrap (2 + (i : Int)) = 2 + (i : Int) := by rw [u8_wrap]; omega
          have hbe := below_box wr (.cells #[.int .u8 (2 + (i : Int))] 5)
          have HOB := Lib.hid (ownB_up HO.out hbe)
          have HQB := Lib.hid (HQ.out.up hbe)
          have HBB := Lib.hid (HB.out.trans (hbe.mono HB.out.size))
          have HBX := Lib.hid (bytes_box wr (2 + (i : Int)))
          obtain ⟨A7, c7, rfl, -⟩ := HO.out.form
          obtain ⟨q, hq⟩ : ∃ q, q = M.length := ⟨_, rfl⟩
          rw [← hq] at HO HOB ⊢
          clear hq hrs hME hlen hbl hbe h0 hne HE hnp
          go_upto_region 20 with (at_builtin; refine append_bytesG Try.underlying22 byte_info _ rfl (.tmp 77) (.tmp 81) rfl w6.heap.size _ M rfl HOB.out _ 1 1 [(2 + i : Int)] rfl rfl HBX.out HL1.out HBB.out.size ?_; intro v20 w20 hO20 hg20; have hU20 := UT.grown hg20 HOB.out HBB.out.size; have HO20 := Lib.hid hO20; have HB20 := Lib.hid (HBB.out.trans hU20.below); have HQ20 := Lib.hid (hU20.fb HQB.out (by decide)); clear hO20 hg20 hU20)
          have y1 : w20.cell? ⟨h, i, none⟩ = some (.slice A np c) := by rw [HQ20.out.cell i hlt, HBJ.out]
          clear y0 HOB HQB HBB HBX HO HQ HB
          go_upto_region 21 with (first
            | (go_at_call 27; refine (rlow_any _ (np : Int) 3 HNP.out (by decide)).mono ?_; rintro e w21 ⟨v21, rfl, hO21, hB21⟩; obtain ⟨A21, n21, c21, rfl, hS21⟩ := own_full hO21; have HS21 := Lib.hid hS21; have HO21 := Lib.hid (ownB_up HO20.out hB21); have HB21 := Lib.hid (HB20.out.trans (hB21.mono HB20.out.size)); have HQ22_ := Lib.hid (HQ20.out.up hB21); clear hO21 hB21 hS21)
            | (at_builtin; refine append_bytesG Try.underlying22 byte_info _ rfl (.tmp 83) (.tmp 89) rfl w6.heap.size _ (M ++ [(2 + i : Int)]) rfl HO21.out A21 n21 c21 (le (np : Int) 3) rfl HS21.out.len.out HS21.out.byt (by rw [← HS21.out.len.out, le_len]; exact HL2.out) HB21.out.size ?_; intro v22 w22 hO22 hg22; have hU22 := UT.grown hg22 HO21.out HB21.out.size; have HO22 := Lib.hid hO22; have HB22 := Lib.hid (HB21.out.trans hU22.below); have HQ22 := Lib.hid (hU22.fb HQ22_.out (by decide)); clear hO22 hg22 hU22))
          have y2 : w22.cell? ⟨h, i, none⟩ = some (.slice A np c) := by rw [HQ22.out.cell i hlt, HBJ.out]
          have HSL22 := Lib.hid (SlB HPR.out HBJ.out hlt HB22.out)
          clear y1 HO20 HB20 HQ20 HQ22_ HO21 HB21 HS21
          go_wp2_with (at_builtin; refine append_bytesG Try.underlying22 byte_info _ rfl (.tmp 91) (.tmp 95) rfl w6.heap.size _ ((M ++ [(2 + i : Int)]) ++ le (np : Int) 3) rfl HO22.out A np c (prt k i) rfl HSL22.out.len.out HSL22.out.byt HL3.out HB22.out.size ?_; intro v23 w23 hO23 hg23; have hU23 := UT.grown hg23 HO22.out HB22.out.size; have HO23 := Lib.hid hO23; have HB23 := Lib.hid (HB22.out.trans hU23.below); have HQ23 := Lib.hid (hU23.fb HQ22.out (by decide)); clear hO23 hg23 hU23)
          go_roundw
          case rel => exact ⟨i + 1, _, by go_num, by omega, HE2, HO23.out, HQ23.out, HB23.out⟩
          case measure => simp [intOf]; omega
end Go.Proofs.Ytkfcfoidaalnlaa.Pak
