/- Package deed: a claim and a deed are written. -/
import Derived.Test.YtbomihdnnidelaaDeR
namespace Go.Proofs.Ytbomihdnnidelaa
open Go.ChangeShapes Go.WideShapes Go.ChangeAt Go.RowKit
open Dee
set_option linter.unusedVariables false
set_option linter.unusedSimpArgs false
set_option maxRecDepth 100000
/-- a claim in memory: whether it is dead, 42 tags, constraints -/
structure Mc where
  dead : Bool
  G : Nat → Tag
  cons : List Con
/-- what of it is written -/
def toCl (x : Mc) : Cl := if x.dead = true then deadCl else ⟨false, (List.range 10).map x.G, entsF (fun s => x.G (10 + s)) 32, x.cons⟩
/-- all of it may be written -/
structure McG (x : Mc) : Prop where
  regs : x.dead = false → ∀ n, n < 10 → toldB false (x.G n) = true
  slots : x.dead = false → ∀ s, s < 32 → x.G (10 + s) = Tag.zero ∨ toldB true (x.G (10 + s)) = true
  cons : x.dead = false → (∀ c ∈ x.cons, conB c = true) ∧ x.cons.length ≤ 3540
/-- things that lie below B -/
def RowsB {α : Type} (B : Nat) (w : World) (A : Option Addr) (s : Nat) (f : α → Nat → Value) (l : List α) : Prop :=
  0 < l.length → ∃ b off, A = some ⟨b, off, none⟩ ∧ b < B ∧ ∀ j a, l[j]? = some a → ∀ k, k < s → w.cell? ⟨b, off + j * s + k, none⟩ = some (f a k)
theorem RowsB.keep {α : Type} {B : Nat} {w w' : World} {A : Option Addr} {s : Nat} {f : α → Nat → Value} {l : List α} (h : RowsB B w A s f l) (hb : Below B w w') : RowsB B w' A s f l := fun hp => by
  obtain ⟨b, off, e, hl, hc⟩ := h hp
  exact ⟨b, off, e, hl, fun j a hj k hk => (cell_same (hb.block b hl) _).trans (hc j a hj k hk)⟩
theorem RowsB.at_ {α : Type} {B : Nat} {w : World} {A : Option Addr} {s : Nat} {f : α → Nat → Value} {l : List α} (h : RowsB B w A s f l) (hB : B ≤ w.heap.size) : RowsAt w A s f l := fun hp => by
  obtain ⟨b, off, e, hl, hc⟩ := h hp
  exact ⟨b, off, e, by omega, hc⟩
/-- a value is the list of these constraints -/
def ConV (B : Nat) (w : World) (v : Value) (l : List Con) : Prop := ∃ A m c, v = .slice A m c ∧ Hid (l.length = m) ∧ (m ≤ c ∧ m ≤ 9223372036854775807) ∧ RowsB B w A 3 coF l
theorem ConV.keep {B : Nat} {w w' : World} {v : Value} {l : List Con} (h : ConV B w v l) (hb : Below B w w') : ConV B w' v l := by
  obtain ⟨A, m, c, e, h1, h3, h2⟩ := h
  exact ⟨A, m, c, e, h1, h3, h2.keep hb⟩
theorem conW_len {c : Con} (h : conB c = true) : (conW c).length ≤ 11 := by
  unfold conB at h
  simp only [Bool.and_eq_true] at h
  have h4 := (constB_iff _).1 h.2.2.2
  have := num_len10 (zig c.c) (zig_lt _ (by omega))
  unfold conW
  simp; omega
theorem consW_len : ∀ (l : List Con), (∀ c ∈ l, conB c = true) → (l.flatMap conW).length ≤ 11 * l.length
  | [], _ => by simp
  | a :: t, h => by
    have h1 := consW_len t (fun c hc => h c (by simp [hc]))
    have h2 := conW_len (h a (by simp))
    rw [List.flatMap_cons, List.length_append, List.length_cons]
    omega
theorem map_succ {α : Type} (f : Nat → α) (n : Nat) : (List.range (n + 1)).map f = (List.range n).map f ++ [f n] := by rw [List.range_succ, List.map_append]; rfl
theorem clW_live (x : Mc) (h : x.dead = false) : clW (toCl x) = 1 :: (((List.range 10).map x.G).flatMap (tagW false) ++ ((num (entsF (fun s => x.G (10 + s)) 32).length ++ (entsF (fun s => x.G (10 + s)) 32).flatMap entW) ++ (num x.cons.length ++ x.cons.flatMap conW))) := by
  unfold toCl
  rw [if_neg (by rw [h]; decide)]
  unfold clW
  rw [if_neg (show ¬ (false = true) by decide)]
  rfl
theorem regsW_len (G : Nat → Tag) (n : Nat) : (((List.range n).map G).flatMap (tagW false)).length ≤ 2 * n := by
  have := flatW_len (tagW false) 2 (tagW_len false) ((List.range n).map G)
  simpa using this
theorem boxed {w w1 : World} {base B : Nat} (hB1 : Below w.heap.size w w1) (hB : B ≤ base) (hb : base ≤ w.heap.size) : WT B w w1 := WT.of_below hB1 (Nat.le_trans hB hb)
set_option maxHeartbeats 8000000 in
theorem claim_w (w : World) (g base B : Nat) (L : List Int) (x : Mc) (v : Value) (h : Wr w g base L) (hB : B ≤ g ∧ B ≤ base) (hx : McG x) (hv : x.dead = false → ConV B w v x.cons) (hlen : L.length ≤ 1099511000000) :
    Calls Try.prog 53 #[.pointer (some ⟨g, 0, none⟩), .agg (arr 128 (clF x.dead x.G v))] w (WrEnd w g base B (L ++ clW (toCl x))) := by
  have HW0 := Lib.hid h
  have HB := Lib.hid hB
  have HL := Lib.hid hlen
  have HX := Lib.hid hx
  have HV := Lib.hid hv
  clear h hB hlen hx hv
  obtain ⟨T, hT⟩ : ∃ T, T = clF x.dead x.G v := ⟨_, rfl⟩
  have HTT := Lib.hid hT
  rw [← hT]
  clear hT
  go_enter Try.func53, Try.ntmps53
  go_upto_region 1 with (refine wpList_box_seg rfl _ (.tmp 1) rfl 128 T rfl ?_; intro w1 h1 hB1 hs1)
  obtain ⟨gb, hgb⟩ : ∃ gb, gb = w.heap.size := ⟨_, rfl⟩
  rw [← hgb] at h1 ⊢
  have HF0 := Lib.hid (show FB w1 gb 61 128 (clF x.dead x.G v) by rw [← HTT.out]; exact h1)
  have HT0 := Lib.hid (WT.of_below hB1 (Nat.le_trans HB.out.2 HW0.out.base))
  have HW1 := Lib.hid (HW0.out.up hB1)
  clear h1 hB1 hs1 hgb HW0
  have x0 : w1.cell? ⟨gb, 0, none⟩ = some (.bool x.dead) := HF0.out.cell 0 (by decide)
  cases hd : x.dead
  · rw [hd] at x0
    have hcell : ∀ (W : World), FB W gb 61 128 (clF x.dead x.G v) → ∀ j, j < 42 → ∀ k, k < 3 → W.cell? ⟨gb, 1 + j * 3 + k, none⟩ = some (tgF (x.G j) k) := fun W hW j hj k hk => by
      rw [hW.cell (1 + j * 3 + k) (by omega)]
      unfold clF
      rw [if_neg (by omega), if_pos (by omega), show (1 + j * 3 + k - 1) / 3 = j by omega, show (1 + j * 3 + k - 1) % 3 = k by omega]
    have hcell2 : ∀ (W : World), FB W gb 61 128 (clF x.dead x.G v) → ∀ q, q < 96 → W.cell? ⟨gb, 31 + q, none⟩ = some (tsF (fun s => x.G (10 + s)) q) := fun W hW q hq => by
      rw [hW.cell (31 + q) (by omega)]
      unfold clF tsF
      rw [if_neg (by omega), if_pos (by omega), show (31 + q - 1) / 3 = 10 + q / 3 by omega, show (31 + q - 1) % 3 = q % 3 by omega]
    have HC := Lib.hid hcell
    have HC2 := Lib.hid hcell2
    have HR := Lib.hid (HX.out.regs hd)
    have HSL := Lib.hid (HX.out.slots hd)
    have HCO := Lib.hid (HX.out.cons hd)
    have HVV := Lib.hid (HV.out hd)
    have HCW := Lib.hid (clW_live x hd)
    clear hcell hcell2 hd HV HX
    go_wp2_with fail
    refine (byte_w _ g base B L 1 HW1.out HB.out (by decide) (by have := HL.out; omega)).mono ?_
    rintro e w2 ⟨rfl, h2, hT2⟩
    have HF2 := Lib.hid (hT2.fb HF0.out (by decide) (by decide))
    have HW2 := Lib.hid h2
    have HT2 := Lib.hid (HT0.out.trans hT2)
    clear h2 hT2 HF0 HT0 HW1 x0
    go_wp2_with fail
    go_loopw [4, 13, 15, 16, 17, 18, 19, 20, 21, 22] (fun _ a13 _ _ _ _ _ _ _ _ wr => ∃ (j : Nat), j ≤ 10 ∧ a13 = .int .i64 j ∧ FB wr gb 61 128 (clF x.dead x.G v) ∧ Wr wr g base ((L ++ [1]) ++ ((List.range j).map x.G).flatMap (tagW false)) ∧ WT B w wr) (fun _ a13 _ _ _ _ _ _ _ _ _ => (10 - intOf a13).toNat)
    case atStart => exact ⟨0, by omega, rfl, HF2.out, by rw [show ((List.range 0).map x.G).flatMap (tagW false) = [] from rfl, List.append_nil]; exact HW2.out, HT2.out⟩
    case round =>
      obtain ⟨j, hj, rfl, hF, hWr, hT⟩ := hrel
      clear HF2 HW2 HT2
      have HF := Lib.hid hF
      have HWr := Lib.hid hWr
      have HT := Lib.hid hT
      have HRL := Lib.hid (regsW_len x.G j)
      clear hF hWr hT
      by_cases hlt : j < 10
      · have hlt' : (j : Int) < 10 := by omega
        obtain ⟨F, hFF⟩ : ∃ F, F = tgF (x.G j) := ⟨_, rfl⟩
        have HXX := Lib.hid (show ∀ k, k < 3 → wr.cell? ⟨gb, 1 + j * 3 + k, none⟩ = some (F k) by rw [hFF]; exact HC.out wr HF.out j (by omega))
        have HFF := Lib.hid hFF
        have HTB := Lib.hid (HR.out j hlt)
        have HEQ := Lib.hid (show (L ++ [1]) ++ ((List.range (j + 1)).map x.G).flatMap (tagW false) = ((L ++ [1]) ++ ((List.range j).map x.G).flatMap (tagW false)) ++ tagW false (x.G j) by
          rw [map_succ, List.flatMap_append, List.flatMap_cons, List.flatMap_nil, List.append_nil, ← List.append_assoc])
        clear hFF
        go_wp2_with (refine wpList_load_cells rfl 56 _ rfl gb (1 + j * 3) rfl 3 F _ HXX.out Try.underlying56 rfl sizeTag ?_)
        go_at_call 76
        rw [HFF.out]
        refine (tag_w _ g base B _ (x.G j) false HWr.out HB.out HTB.out (by have h1 := HL.out; have h2 := HRL.out; rw [len_app (L ++ [1]) _, len_app L _]; show L.length + 1 + _ ≤ _; omega)).mono ?_
        rintro e w4 ⟨rfl, h4, hT4⟩
        rw [← HEQ.out] at h4
        have HF4 := Lib.hid (hT4.fb HF.out (by decide) (by decide))
        have HW4 := Lib.hid h4
        have HT4 := Lib.hid (HT.out.trans hT4)
        clear h4 hT4 HF HWr HT HXX
        go_wp2_with fail
        go_roundw
        case rel => exact ⟨j + 1, by omega, by go_num, HF4.out, HW4.out, HT4.out⟩
        case measure => simp [intOf]; omega
      · obtain rfl : j = 10 := by omega
        clear hlt hj
        obtain ⟨M, hM⟩ : ∃ M, M = (L ++ [1]) ++ ((List.range 10).map x.G).flatMap (tagW false) := ⟨_, rfl⟩
        have HML := Lib.hid (show M.length ≤ 1099511000021 by rw [hM, len_app (L ++ [1]) _, len_app L _]; have h1 := HL.out; have h2 := HRL.out; show L.length + 1 + _ ≤ _; omega)
        rw [← hM] at HWr
        have HMM := Lib.hid hM
        obtain ⟨F, hFF⟩ : ∃ F, F = tsF (fun s => x.G (10 + s)) := ⟨_, rfl⟩
        have HXX := Lib.hid (show ∀ k, k < 96 → wr.cell? ⟨gb, 31 + k, none⟩ = some (F k) by rw [hFF]; exact HC2.out wr HF.out)
        have HFF := Lib.hid hFF
        clear hFF hM HRL
        go_wp2_with (refine wpList_load_cells rfl 58 _ rfl gb 31 rfl 96 F _ HXX.out Try.underlying58 rfl sizeTags32 ?_)
        go_at_call 77
        rw [HFF.out]
        refine (stack_w _ g base B M (fun s => x.G (10 + s)) HWr.out HB.out HSL.out (by have := HML.out; omega)).mono ?_
        rintro e w4 ⟨rfl, h4, hT4⟩
        obtain ⟨M2, hM2⟩ : ∃ M2, M2 = M ++ (num (entsF (fun s => x.G (10 + s)) 32).length ++ (entsF (fun s => x.G (10 + s)) 32).flatMap entW) := ⟨_, rfl⟩
        rw [← hM2] at h4
        have HM2L := Lib.hid (show M2.length ≤ 1099511000130 by
          rw [hM2]
          simp only [List.length_append]
          have h1 := HML.out
          have h2 := num_len10 (entsF (fun s => x.G (10 + s)) 32).length (by have := entsF_len (fun s => x.G (10 + s)) 32; omega)
          have h3 := flatW_len entW 3 entW_len (entsF (fun s => x.G (10 + s)) 32)
          have h4 := entsF_len (fun s => x.G (10 + s)) 32
          omega)
        have HM2 := Lib.hid hM2
        have HF4 := Lib.hid (hT4.fb HF.out (by decide) (by decide))
        have HW4 := Lib.hid h4
        have HT4 := Lib.hid (HT.out.trans hT4)
        clear h4 hT4 HF HWr HT HXX hM2
        obtain ⟨A7, m7, c7, rfl, HL7, -, hR7⟩ := HVV.out
        have HR7 := Lib.hid (hR7.keep HT4.out.below)
        have hm7 : m7 ≤ 3540 := by have := HL7.out; have := HCO.out.2; omega
        have x7 : w4.cell? ⟨gb, 127, none⟩ = some (.slice A7 m7 c7) := HF4.out.cell 127 (by decide)
        clear hR7 HVV
        go_wp2_with fail
        go_at_call 51
        refine (number_w _ g base B M2 m7 HW4.out HB.out (by omega) (by have := HM2L.out; omega)).mono ?_
        rintro e w5 ⟨rfl, h5, hT5⟩
        have HF5 := Lib.hid (hT5.fb HF4.out (by decide) (by decide))
        have HW5 := Lib.hid h5
        have HT5 := Lib.hid (HT4.out.trans hT5)
        have HNL := Lib.hid (num_len10 m7 (by omega))
        have HR5 := Lib.hid (HR7.out.keep hT5.below)
        clear h5 hT5 HF4 HW4 HT4 x7 HR7
        have x7 : w5.cell? ⟨gb, 127, none⟩ = some (.slice A7 m7 c7) := HF5.out.cell 127 (by decide)
        go_wp2_with fail
        go_loopw [6, 35, 37, 38, 39, 40, 41, 42, 43, 44, 45, 46, 47, 48, 49, 50, 51] (fun _ a35 _ _ _ _ _ _ _ _ _ _ _ _ _ _ _ wr => ∃ (j : Nat), j ≤ m7 ∧ a35 = .int .i64 j ∧ Wr wr g base ((M2 ++ num m7) ++ (x.cons.take j).flatMap conW) ∧ WT B w wr ∧ RowsB B wr A7 3 coF x.cons) (fun _ a35 _ _ _ _ _ _ _ _ _ _ _ _ _ _ _ _ => (m7 - intOf a35).toNat)
        case atStart => exact ⟨0, by omega, rfl, by rw [show (x.cons.take 0).flatMap conW = [] from rfl, List.append_nil]; exact HW5.out, HT5.out, HR5.out⟩
        case round =>
          obtain ⟨j, hj, rfl, hWr, hT, hRr⟩ := hrel
          clear HF5 HW5 HT5 HR5 x7
          have HWr := Lib.hid hWr
          have HT := Lib.hid hT
          have HRr := Lib.hid hRr
          clear hWr hT hRr
          by_cases hlt : j < m7
          · have hlt' : (j : Int) < m7 := by omega
            obtain ⟨b, off, rfl, hbB, hcells⟩ := HRr.out (by have := HL7.out; omega)
            obtain ⟨y, hy⟩ : ∃ y, x.cons[j]? = some y := ⟨x.cons[j]'(by have := HL7.out; omega), List.getElem?_eq_getElem _⟩
            have HX3 := Lib.hid (hcells j y hy)
            have HYB := Lib.hid (HCO.out.1 y (List.mem_of_getElem? hy))
            have HTK := Lib.hid (show x.cons.take (j + 1) = x.cons.take j ++ [y] by rw [List.take_add_one, hy]; rfl)
            have HPL := Lib.hid (show ((M2 ++ num m7) ++ (x.cons.take j).flatMap conW).length ≤ 1099511040000 by
              have h1 := HM2L.out
              have h2 := HNL.out
              have h3 := consW_len (x.cons.take j) (fun c hc => HCO.out.1 c (List.mem_of_mem_take hc))
              have h4 : (x.cons.take j).length ≤ 3540 := by rw [List.length_take]; omega
              rw [len_app (M2 ++ num m7) _, len_app M2 _]
              omega)
            have HEQ := Lib.hid (show (M2 ++ num m7) ++ (x.cons.take (j + 1)).flatMap conW = ((((M2 ++ num m7) ++ (x.cons.take j).flatMap conW) ++ [y.i]) ++ [y.j]) ++ num (zig y.c) by
              rw [HTK.out, List.flatMap_append, List.flatMap_cons, List.flatMap_nil, List.append_nil, ← List.append_assoc]
              unfold conW
              simp)
            clear hcells hy HTK
            obtain ⟨F, hFF⟩ : ∃ F, F = coF y := ⟨_, rfl⟩
            rw [← hFF] at HX3
            have HO := Lib.hid (show ∀ q, q < 3 → (F q).oneCell' = true by rw [hFF]; exact coF_one y)
            have HFF := Lib.hid hFF
            clear hFF
            go_upto_region 14 with (first
              | (refine wpList_load_cells rfl 63 _ rfl b (off + j * 3) rfl 3 F _ HX3.out Try.underlying63 rfl sizeCon ?_)
              | (refine wpList_alloc_seg rfl 63 rfl 3 (coF ⟨0, 0, 0⟩) zeroCon ?_; intro w6 h6 hB6 hs6)
              | (refine wpList_store_all rfl 63 _ _ rfl wr.heap.size 63 3 _ F rfl rfl h6 sizeCon HO.out ?_; intro w7 h7 hT7 hs7))
            obtain ⟨gc, hgc⟩ : ∃ gc, gc = wr.heap.size := ⟨_, rfl⟩
            rw [← hgc] at h6 h7 hT7 ⊢
            have hbw : Below wr.heap.size wr w7 := hB6.trans (hT7.below (by omega) hB6.size)
            have HF7 := Lib.hid (show FB w7 gc 63 3 (coF y) by rw [← HFF.out]; exact h7)
            have HW7 := Lib.hid (HWr.out.up hbw)
            have HT7 := Lib.hid (HT.out.trans (WT.of_below hbw (Nat.le_trans HB.out.2 HWr.out.base)))
            have HR8 := Lib.hid (HRr.out.keep (hbw.mono (Nat.le_trans HB.out.2 HWr.out.base)))
            clear h6 hB6 hs6 h7 hT7 hs7 hgc hbw HX3 HO HFF HWr HT HRr
            have hyb := HYB.out
            unfold conB at hyb
            simp only [Bool.and_eq_true] at hyb
            have r1 := (varB_iff _).1 hyb.1
            have r2 := (varB_iff _).1 hyb.2.1
            have r3 := (constB_iff _).1 hyb.2.2.2
            have HR1 := Lib.hid (And.intro r1 (And.intro r2 r3))
            obtain ⟨yi, yj, yc⟩ := y
            clear hyb r1 r2 r3
            have z0 : w7.cell? ⟨gc, 0, none⟩ = some (.int .i64 yi) := HF7.out.cell 0 (by decide)
            go_wp2_with fail
            go_at_call 74
            refine (byte_w _ g base B _ yi HW7.out HB.out (by have := HR1.out.1; omega) (by have := HPL.out; omega)).mono ?_
            rintro e w8 ⟨rfl, h8, hT8⟩
            have HF8 := Lib.hid (hT8.fb HF7.out (by decide) (by decide))
            have HW8 := Lib.hid h8
            have HT8 := Lib.hid (HT7.out.trans hT8)
            have HR9 := Lib.hid (HR8.out.keep hT8.below)
            clear h8 hT8 HF7 HW7 HT7 HR8 z0
            have z1 : w8.cell? ⟨gc, 1, none⟩ = some (.int .i64 yj) := HF8.out.cell 1 (by decide)
            go_wp2_with fail
            go_at_call 74
            refine (byte_w _ g base B _ yj HW8.out HB.out (by have := HR1.out.2.1; omega) (by have h9 := HPL.out; rw [len_app _ [yi]]; show _ + 1 ≤ _; omega)).mono ?_
            rintro e w9 ⟨rfl, h9, hT9⟩
            have HF9 := Lib.hid (hT9.fb HF8.out (by decide) (by decide))
            have HW9 := Lib.hid h9
            have HT9 := Lib.hid (HT8.out.trans hT9)
            have HR10 := Lib.hid (HR9.out.keep hT9.below)
            clear h9 hT9 HF8 HW8 HT8 HR9 z1
            have z2 : w9.cell? ⟨gc, 2, none⟩ = some (.int .i64 yc) := HF9.out.cell 2 (by decide)
            go_wp2_with fail
            go_at_call 75
            refine (signed_wr _ g base B _ yc HW9.out HB.out (by have := HR1.out.2.2; omega) (by have h9 := HPL.out; rw [len_app _ [yj], len_app _ [yi]]; show _ + 1 + 1 ≤ _; omega)).mono ?_
            rintro e w10 ⟨rfl, h10, hT10⟩
            have he := HEQ.out
            rw [← he] at h10
            have HW10 := Lib.hid h10
            have HT10 := Lib.hid (HT9.out.trans hT10)
            have HR11 := Lib.hid (HR10.out.keep hT10.below)
            clear h10 hT10 HF9 HW9 HT9 HR10 z2 he
            go_wp2_with fail
            go_roundw
            case rel => exact ⟨j + 1, by omega, by go_num, HW10.out, HT10.out, HR11.out⟩
            case measure => simp [intOf]; omega
          · obtain rfl : j = m7 := by omega
            have HEE := Lib.hid (show L ++ clW (toCl x) = (M2 ++ num j) ++ (x.cons.take j).flatMap conW by
              rw [HCW.out, HM2.out, HMM.out, List.take_of_length_le (by rw [HL7.out]; exact Nat.le_refl _), HL7.out]
              simp)
            have hlt' : decide (j < j) = false := by simp
            clear hlt hj
            go_wp2_with fail
            go_end0
            exact ⟨rfl, by rw [HEE.out]; exact HWr.out, HT.out⟩
  · rw [hd] at x0
    have HE := Lib.hid (show L ++ clW (toCl x) = L ++ [0] by unfold toCl; rw [if_pos hd]; rfl)
    clear hd
    go_wp2_with fail
    refine (byte_w _ g base B L 0 HW1.out HB.out (by decide) (by have := HL.out; omega)).mono ?_
    rintro e w2 ⟨rfl, h2, hT2⟩
    have HW2 := Lib.hid h2
    have HT2 := Lib.hid (HT0.out.trans hT2)
    clear h2 hT2
    go_wp2_with fail
    go_end0
    exact ⟨rfl, by rw [HE.out]; exact HW2.out, HT2.out⟩
end Go.Proofs.Ytbomihdnnidelaa
