/- Package pack: all sections are read. -/
import Derived.Test.YtkfcfoidaalnlaaPkP
namespace Go.Proofs.Ytkfcfoidaalnlaa.Pak
open Go.ChangeShapes Go.WideShapes Go.ChangeAt Go.RowKit
set_option linter.unusedVariables false
set_option linter.unusedSimpArgs false
set_option maxRecDepth 100000
theorem packR_sec {last : Int} {k : Pk} {r : List Int} (hr : r ≠ []) : packR last k r = match secR last r with
  | .error e => .error e
  | .ok ((kind, c), t) => match into k kind c (c.length + t.length) with
    | .error e => .error e
    | .ok k' => if t.length < r.length then packR kind k' t else .error (0, 0) := by rw [packR, if_neg hr]; rfl
theorem packR_end (last : Int) (k : Pk) : packR last k [] = if last = 0 then .error (0, 120) else .ok k := by rw [packR, if_pos rfl]
theorem suffix_drop {B X t : List Int} (h : B = X ++ t) : B.drop (B.length - t.length) = t := by
  subst h
  rw [List.length_append, Nat.add_sub_cancel]
  exact List.drop_left
/-- the bytes behind a section's beginning -/
theorem sec_parts {B c t : List Int} {p : Nat} {kind : Int} (hp : p ≤ B.length) (h : B.drop p = sec kind c ++ t) (hc : c ≠ []) :
    B.length = p + (4 + c.length + t.length) ∧ c = (B.drop (p + 4)).take c.length ∧ t = B.drop (B.length - t.length) := by
  have hl : B.length - p = 4 + c.length + t.length := by
    have h1 := congrArg List.length h
    rw [List.length_drop, sec_ne hc, List.length_append, List.length_cons, List.length_append, le_len] at h1
    omega
  refine ⟨by omega, ?_, ?_⟩
  · have h2 : B.drop (p + 4) = c ++ t := by
      rw [← List.drop_drop, h, sec_ne hc, List.cons_append, List.append_assoc]
      show (le c.length 3 ++ (c ++ t)).drop 3 = _
      rw [List.drop_append_of_le_length (by rw [le_len]; exact Nat.le_refl _), List.drop_of_length_le (by rw [le_len]; exact Nat.le_refl _), List.nil_append]
    rw [h2, List.take_left]
  · refine (suffix_drop (X := B.take p ++ sec kind c) ?_).symm
    rw [List.append_assoc, ← h, List.take_append_drop]
theorem follows_rng {last kind : Int} (h0 : 0 ≤ last) (h : follows last kind = true) : 1 ≤ kind ∧ kind ≤ 4 := by
  unfold follows at h
  by_cases e : last = 0
  · rw [if_pos e] at h
    have : kind = 1 := of_decide_eq_true h
    omega
  · rw [if_neg e, Bool.and_eq_true] at h
    have h1 := of_decide_eq_true h.1
    have h2 := of_decide_eq_true h.2
    omega
structure PS (w : World) (g gk gr base b off n : Nat) (B : List Int) (p : Nat) (last : Int) (k : Pk) (vd vt vc : Value) (W : World) : Prop where
  rd : FB W g 71 3 (rdF (some ⟨b, off, none⟩) n p last)
  pk : PkB W gk base k vd vt vc
  byt : BytesAt W (some ⟨b, off, none⟩) B
  flt : FB W gr 67 2 (ftF 0 0)
  below : Below base w W
  lt : b < W.heap.size ∧ base ≤ W.heap.size
  ne : g ≠ gk ∧ g ≠ gr ∧ gk ≠ gr ∧ b ≠ g ∧ b ≠ gk ∧ base ≤ g ∧ base ≤ gk ∧ base ≤ gr
  far : ∀ j, j < w.heap.size → j ≠ g → j ≠ gk → W.heap[j]? = w.heap[j]?
  sz : w.heap.size ≤ W.heap.size ∧ w.heap.size ≤ gr
theorem PS.up {w : World} {g gk gr base b off n : Nat} {B : List Int} {p : Nat} {last : Int} {k : Pk} {vd vt vc : Value} {W W' : World} (h : PS w g gk gr base b off n B p last k vd vt vc W) (hb : Below W.heap.size W W') : PS w g gk gr base b off n B p last k vd vt vc W' :=
  ⟨h.rd.up hb, h.pk.up hb, h.byt.below hb, h.flt.up hb, h.below.trans (hb.mono h.lt.2), ⟨Nat.lt_of_lt_of_le h.lt.1 hb.size, Nat.le_trans h.lt.2 hb.size⟩, h.ne, fun j hj a c => (hb.block j (Nat.lt_of_lt_of_le hj h.sz.1)).trans (h.far j hj a c), ⟨Nat.le_trans h.sz.1 hb.size, h.sz.2⟩⟩
theorem PS.drewN {w : World} {g gk gr base b off n : Nat} {B : List Int} {p : Nat} {last : Int} {k : Pk} {vd vt vc : Value} {W : World} (h : PS w g gk gr base b off n B p last k vd vt vc W) (m : Nat) : PS w g gk gr base b off n B p last k vd vt vc (W.drewN m) := h.up (below_drewN (Below.refl _ _) m)
/-- the reader has gone on -/
theorem PS.at_rd {w : World} {g gk gr base b off n : Nat} {B : List Int} {p p' : Nat} {last last' : Int} {k : Pk} {vd vt vc : Value} {W W' : World} (h : PS w g gk gr base b off n B p last k vd vt vc W) (ht : Touch g W W') (hr : FB W' g 71 3 (rdF (some ⟨b, off, none⟩) n p' last')) : PS w g gk gr base b off n B p' last' k vd vt vc W' := by
  obtain ⟨n1, n2, n3, n4, n5, n6, n7, n8⟩ := h.ne
  exact ⟨hr, h.pk.touch ht h.rd (by decide) (by decide) (by decide), bytes_touch h.byt ht n4, h.flt.touch ht (fun e => n2 e.symm), h.below.trans (ht.below n6 h.lt.2), ⟨Nat.lt_of_lt_of_le h.lt.1 ht.size, Nat.le_trans h.lt.2 ht.size⟩, h.ne, fun j hj a c => (ht.block j (Nat.lt_of_lt_of_le hj h.sz.1) a).trans (h.far j hj a c), ⟨Nat.le_trans h.sz.1 ht.size, h.sz.2⟩⟩
/-- the container has turned -/
theorem PS.at_pk {w : World} {g gk gr base b off n : Nat} {B : List Int} {p : Nat} {last : Int} {k k' : Pk} {vd vt vc vd' vt' vc' : Value} {W W' : World} (h : PS w g gk gr base b off n B p last k vd vt vc W) (ht : Touch gk W W') (hk : PkB W' gk base k' vd' vt' vc') : PS w g gk gr base b off n B p last k' vd' vt' vc' W' := by
  obtain ⟨n1, n2, n3, n4, n5, n6, n7, n8⟩ := h.ne
  exact ⟨h.rd.touch ht n1, hk, bytes_touch h.byt ht n5, h.flt.touch ht (fun e => n3 e.symm), h.below.trans (ht.below n7 h.lt.2), ⟨Nat.lt_of_lt_of_le h.lt.1 ht.size, Nat.le_trans h.lt.2 ht.size⟩, h.ne, fun j hj a c => (ht.block j (Nat.lt_of_lt_of_le hj h.sz.1) c).trans (h.far j hj a c), ⟨Nat.le_trans h.sz.1 ht.size, h.sz.2⟩⟩
theorem PS.at_tmp {w : World} {g gk gr base b off n x : Nat} {B : List Int} {p : Nat} {last : Int} {k : Pk} {vd vt vc : Value} {W W' : World} {t : TypeId} {cs : Array Value} (h : PS w g gk gr base b off n B p last k vd vt vc W) (ht : Touch x W W') (hb : Blk W x t cs) (h1 : 5 ≠ t) (h2 : 60 ≠ t) (h3 : 25 ≠ t) (n1 : g ≠ x) (n2 : gr ≠ x) (n3 : b ≠ x) (n4 : base ≤ x) (n5 : w.heap.size ≤ x) : PS w g gk gr base b off n B p last k vd vt vc W' :=
  ⟨h.rd.touch ht n1, h.pk.touch ht hb h1 h2 h3, bytes_touch h.byt ht n3, h.flt.touch ht n2, h.below.trans (ht.below n4 h.lt.2), ⟨Nat.lt_of_lt_of_le h.lt.1 ht.size, Nat.le_trans h.lt.2 ht.size⟩, h.ne, fun j hj a c => (ht.block j (Nat.lt_of_lt_of_le hj h.sz.1) (by omega)).trans (h.far j hj a c), ⟨Nat.le_trans h.sz.1 ht.size, h.sz.2⟩⟩
theorem ft_inj {a e a' e' : Int} (h : Ending.returned (.agg (arr 2 (ftF a e))) = .returned (.agg (arr 2 (ftF a' e')))) : a = a' ∧ e = e' := by
  injection h with h
  injection h with h
  have h0 := congrArg (fun x => x[0]?) h
  have h1 := congrArg (fun x => x[1]?) h
  simp only [arr_get 2 _ 0 (by decide), arr_get 2 _ 1 (by decide)] at h0 h1
  injection h0 with h0
  injection h0 with _ h0
  injection h1 with h1
  injection h1 with _ h1
  exact ⟨h0, h1⟩
def atOf (g : Nat) (W : World) : Int := intOf ((W.cell? ⟨g, 1, none⟩).getD undef)
set_option maxHeartbeats 8000000 in
theorem packM_any (w : World) (g gk base b off n p : Nat) (last : Int) (k : Pk) (vd vt vc : Value) (B : List Int) (hR : FB w g 71 3 (rdF (some ⟨b, off, none⟩) n p last)) (hK : PkB w gk base k vd vt vc) (hB : B.length = n) (hn : n ≤ 131072) (hp : p ≤ n) (hY : Bytes B) (hA : BytesAt w (some ⟨b, off, none⟩) B) (hl0 : 0 ≤ last)
    (hne : g ≠ gk ∧ b ≠ g ∧ b ≠ gk ∧ base ≤ g ∧ base ≤ gk) (hlt : b < w.heap.size) (hbase : base ≤ w.heap.size) :
    Calls Try.prog 34 #[.pointer (some ⟨g, 0, none⟩), .pointer (some ⟨gk, 0, none⟩)] w fun e w' => Below base w w' ∧ (∀ j, j < w.heap.size → j ≠ g → j ≠ gk → w'.heap[j]? = w.heap[j]?) ∧ IntoRes n gk base (packR last k (B.drop p)) e w' := by
  obtain ⟨res, hres⟩ : ∃ r, r = packR last k (B.drop p) := ⟨_, rfl⟩
  rw [← hres]
  have HRES := Lib.hid hres
  have HL := Lib.hid hB
  have HY := Lib.hid hY
  have HR := Lib.hid hR
  have HK := Lib.hid hK
  have HA := Lib.hid hA
  clear hres hB hY hR hK hA
  go_enter Try.func34, Try.ntmps34
  go_wp2_with (refine wpList_alloc_seg rfl 67 rfl 2 (ftF 0 0) zeroFt ?_; intro w1 h1 hB1 hs1)
  obtain ⟨gr, hgr⟩ : ∃ gr, gr = w.heap.size := ⟨_, rfl⟩
  rw [← hgr] at h1 ⊢
  have HP0 := Lib.hid (show PS w g gk gr base b off n B p last k vd vt vc w1 from ⟨HR.out.up hB1, HK.out.up hB1, HA.out.below hB1, h1, hB1.mono hbase, ⟨Nat.lt_of_lt_of_le hlt hB1.size, Nat.le_trans hbase hB1.size⟩, by
    have h3 := HR.out.lt
    have h4 := HK.out.blk.lt
    exact ⟨hne.1, by omega, by omega, hne.2.1, hne.2.2.1, hne.2.2.2.1, hne.2.2.2.2, by omega⟩, fun j hj _ _ => hB1.block j hj, ⟨hB1.size, by omega⟩⟩)
  clear h1 hB1 hs1 hgr hlt hbase hne HR HK HA
  simp only [Act.put, List.setIfInBounds_toArray, List.set_cons_zero, List.set_cons_succ]
  go_loopw [5, 6, 7, 8, 9, 10, 11, 12, 13, 14, 15, 16, 17, 18, 19, 20, 21, 22, 23, 24, 25, 26, 27, 28, 29, 30, 31] (fun _ _ _ _ _ _ _ _ _ _ _ _ _ _ _ _ _ _ _ _ _ _ _ _ _ _ _ wr => ∃ (p : Nat) (last : Int) (k : Pk) (vd vt vc : Value), p ≤ n ∧ 0 ≤ last ∧ Hid (packR last k (B.drop p) = res) ∧ PS w g gk gr base b off n B p last k vd vt vc wr) (fun _ _ _ _ _ _ _ _ _ _ _ _ _ _ _ _ _ _ _ _ _ _ _ _ _ _ _ wr => (n - atOf g wr).toNat)
  case atStart => exact ⟨p, last, k, vd, vt, vc, hp, hl0, Lib.hid HRES.out.symm, HP0.out⟩
  case round =>
    clear hl0 hp HP0 HRES
    obtain ⟨p, last, k, vd, vt, vc, hp, hl0, HE, hP⟩ := hrel
    have HP := Lib.hid hP
    have x0 : wr.cell? ⟨g, 0, none⟩ = some (.slice (some ⟨b, off, none⟩) n n) := hP.rd.cell 0 (by decide)
    have x1 : wr.cell? ⟨g, 1, none⟩ = some (.int .i64 p) := hP.rd.cell 1 (by decide)
    have HAT := Lib.hid (show atOf g wr = p by unfold atOf; rw [x1]; rfl)
    clear hP
    by_cases hlt : p < n
    · have hlt' : (p : Int) < n := by omega
      have hrn : B.drop p ≠ [] := fun e => by have := congrArg List.length e; rw [List.length_drop, List.length_nil] at this; have := HL.out; omega
      rw [packR_sec hrn] at HE
      go_upto_region 1 with fail
      go_quiet (fail)
      obtain ⟨w2, hw2⟩ : ∃ u, u = wr.drewN nq := ⟨_, rfl⟩
      have HP2 := Lib.hid (show PS w g gk gr base b off n B p last k vd vt vc w2 by rw [hw2]; exact HP.out.drewN nq)
      rw [← hw2]
      clear hw2 x0 x1 HP
      go_upto_region 2 with fail
      have HSE := Lib.hid (section_any w2 g b off n p last B HP2.out.rd HL.out hn hlt HY.out HP2.out.byt HP2.out.ne.2.2.2.1)
      unfold SecEnd at HSE
      cases hs : secR last (B.drop p) with
      | error x =>
        obtain ⟨lf, er⟩ := x
        rw [hs] at HE HSE
        have hnz := (secR_err hs).1
        have HE2 := Lib.hid (show res = .error (lf, er) from HE.out.symm)
        have tz : (er == 0) = false := by rw [beq_eq_false_iff_ne]; exact hnz
        have tn : (er != 0) = true := by rw [bne_iff_ne]; exact hnz
        clear hs hnz HE
        go_upto_region 3 with (first
          | (go_at_call 48; refine HSE.out.mono ?_; rintro e w3 ⟨hT3, rfl, hR3⟩)
          | (refine wpList_alloc_seg rfl 77 rfl 3 (secF Sc.zero) zeroSec ?_; intro w4 h4 hB4 hs4)
          | (refine wpList_alloc_seg rfl 67 rfl 2 (ftF 0 0) zeroFt ?_; intro w5 h5 hB5 hs5)
          | (refine wpList_store_all rfl 77 _ _ rfl w3.heap.size 77 3 _ (secF Sc.zero) rfl rfl (h4.up hB5) sizeSec (secF_one _) ?_; intro w6 h6 hT6 hs6; have h56 := h5.touch hT6 (by omega))
          | (refine wpList_store_all rfl 67 _ _ rfl w4.heap.size 67 2 _ (ftF ((n - lf : Nat)) (er)) rfl rfl h56 sizeFt (ftF_one _ _) ?_; intro w7 h7 hT7 hs7))
        obtain ⟨gs, hgs⟩ : ∃ gs, gs = w3.heap.size := ⟨_, rfl⟩
        obtain ⟨gf, hgf⟩ : ∃ gf, gf = w4.heap.size := ⟨_, rfl⟩
        have hb7 : Below w3.heap.size w3 w7 := ((hB4.trans (hB5.mono hB4.size)).trans (hT6.below (Nat.le_refl _) (Nat.le_trans hB4.size hB5.size))).trans (hT7.below (by omega) (by omega))
        rw [← hgs] at h6 ⊢
        rw [← hgf] at h7 ⊢
        have HP7 := Lib.hid ((HP2.out.at_rd hT3 hR3).up hb7)
        have HF7 := Lib.hid h7
        have HS7 := Lib.hid (h6.touch hT7 (by omega))
        have HNEW := Lib.hid (show gs ≠ gf ∧ base ≤ gs ∧ base ≤ gf ∧ gr ≠ gs ∧ gr ≠ gf ∧ gk ≠ gs ∧ gk ≠ gf ∧ g ≠ gs ∧ g ≠ gf ∧ b ≠ gf ∧ w.heap.size ≤ gf by
          have h8 := (HP2.out.at_rd hT3 hR3)
          have h9 := h8.flt.lt
          have h10 := h8.pk.blk.lt
          have h11 := h8.rd.lt
          have h12 := h8.lt.2
          have h13 := h8.lt.1
          have h14 := h8.sz.1
          exact ⟨by omega, by omega, by omega, by omega, by omega, by omega, by omega, by omega, by omega, by omega, by omega⟩)
        have y1 : w7.cell? ⟨gf, 1, none⟩ = some (.int .i64 (er)) := HF7.out.cell 1 (by decide)
        clear hT3 hR3 h4 hB4 hs4 h5 hB5 hs5 h6 hT6 hs6 h56 h7 hT7 hs7 hgs hgf hb7 HP2 HSE
        go_wp2_with (first
          | (refine wpList_load_all rfl 67 _ rfl gf rfl 67 2 (ftF ((n - lf : Nat)) (er)) _ HF7.out Try.underlying67 rfl sizeFt ?_)
          | (refine wpList_store_all rfl 67 _ _ rfl gr 67 2 _ (ftF ((n - lf : Nat)) (er)) rfl rfl HP7.out.flt sizeFt (ftF_one _ _) ?_; intro w9 h9 hT9 hs9))
        refine bodyPost_ret (result_seg rfl _ _ gr _ 2 _ _ rfl h9 Try.underlying67 rfl sizeFt) rfl ?_
        refine ⟨HP7.out.below.trans (hT9.below HP7.out.ne.2.2.2.2.2.2.2 HP7.out.lt.2), fun j hj a c => (hT9.block j (Nat.lt_of_lt_of_le hj HP7.out.sz.1) (by have := HP7.out.sz.2; omega)).trans (HP7.out.far j hj a c), ?_⟩
        rw [HE2.out]
        exact ⟨rfl, _, HP7.out.pk.blk.touch hT9 HP7.out.ne.2.2.1⟩
      | ok x =>
        obtain ⟨⟨kd, c⟩, t⟩ := x
        rw [hs] at HE HSE
        obtain ⟨g1, g2, g3, g4, g5, g6, g7⟩ := secR_good (HY.out.drop p) hs
        obtain ⟨q1, q2, q3⟩ := sec_parts (by rw [HL.out]; exact hp) g1 g2
        rw [HL.out] at q1 q3
        have hkd := follows_rng hl0 g3
        have HC := Lib.hid q2
        have HT := Lib.hid q3
        have HUN := Lib.hid g4
        have HCY := Lib.hid g5
        have HN := Lib.hid q1
        have HKD := Lib.hid hkd
        have HE2 := Lib.hid (show (match into k kd c (c.length + t.length) with
          | .error e => .error e
          | .ok k' => if t.length < (B.drop p).length then packR kd k' t else .error (0, 0)) = res from HE.out)
        have HLT := Lib.hid g7
        clear hs g1 g2 g3 g4 g5 g6 g7 q1 q2 q3 hkd HE
        go_upto_region 3 with (first
          | (go_at_call 48; refine HSE.out.mono ?_; rintro e w3 ⟨hT3, rfl, hR3⟩)
          | (refine wpList_alloc_seg rfl 77 rfl 3 (secF Sc.zero) zeroSec ?_; intro w4 h4 hB4 hs4)
          | (refine wpList_alloc_seg rfl 67 rfl 2 (ftF 0 0) zeroFt ?_; intro w5 h5 hB5 hs5)
          | (refine wpList_store_all rfl 77 _ _ rfl w3.heap.size 77 3 _ (secF ⟨kd, (p + 4 : Nat), some ⟨b, off + (p + 4), none⟩, c.length, c.length, c⟩) rfl rfl (h4.up hB5) sizeSec (secF_one _) ?_; intro w6 h6 hT6 hs6; have h56 := h5.touch hT6 (by omega))
          | (refine wpList_store_all rfl 67 _ _ rfl w4.heap.size 67 2 _ (ftF (0) (0)) rfl rfl h56 sizeFt (ftF_one _ _) ?_; intro w7 h7 hT7 hs7))
        obtain ⟨gs, hgs⟩ : ∃ gs, gs = w3.heap.size := ⟨_, rfl⟩
        obtain ⟨gf, hgf⟩ : ∃ gf, gf = w4.heap.size := ⟨_, rfl⟩
        have hb7 : Below w3.heap.size w3 w7 := ((hB4.trans (hB5.mono hB4.size)).trans (hT6.below (Nat.le_refl _) (Nat.le_trans hB4.size hB5.size))).trans (hT7.below (by omega) (by omega))
        rw [← hgs] at h6 ⊢
        rw [← hgf] at h7 ⊢
        have HP7 := Lib.hid ((HP2.out.at_rd hT3 hR3).up hb7)
        have HF7 := Lib.hid h7
        have HS7 := Lib.hid (h6.touch hT7 (by omega))
        have HNEW := Lib.hid (show gs ≠ gf ∧ base ≤ gs ∧ base ≤ gf ∧ gr ≠ gs ∧ gr ≠ gf ∧ gk ≠ gs ∧ gk ≠ gf ∧ g ≠ gs ∧ g ≠ gf ∧ b ≠ gf ∧ w.heap.size ≤ gf by
          have h8 := (HP2.out.at_rd hT3 hR3)
          have h9 := h8.flt.lt
          have h10 := h8.pk.blk.lt
          have h11 := h8.rd.lt
          have h12 := h8.lt.2
          have h13 := h8.lt.1
          have h14 := h8.sz.1
          exact ⟨by omega, by omega, by omega, by omega, by omega, by omega, by omega, by omega, by omega, by omega, by omega⟩)
        have y1 : w7.cell? ⟨gf, 1, none⟩ = some (.int .i64 (0)) := HF7.out.cell 1 (by decide)
        clear hT3 hR3 h4 hB4 hs4 h5 hB5 hs5 h6 hT6 hs6 h56 h7 hT7 hs7 hgs hgf hb7 HP2 HSE
        obtain ⟨m, hm⟩ : ∃ m, m = c.length := ⟨_, rfl⟩
        rw [← hm] at HS7
        have HM := Lib.hid hm
        clear hm
        have HIN := Lib.hid (into_any w7 gk base n b (off + (p + 4)) (m + t.length) m k vd vt vc kd (p + 4 : Nat) c HP7.out.pk HM.out.symm HKD.out (by rw [HM.out]; exact HUN.out) HCY.out (bytes_part (p := p + 4) (m := m) HP7.out.byt (by rw [HM.out]; exact HC.out) (by have := HN.out; have := HL.out; have := HM.out; omega)) HP7.out.ne.2.2.2.2.1 HP7.out.lt.1 (by have := HN.out; have := HM.out; omega) ⟨by omega, by have := HN.out; have := HM.out; omega⟩ (by omega) HP7.out.lt.2)
        rw [← HM.out] at HE2
        have HFT0 := HF7
        obtain ⟨Y, hY⟩ : ∃ Y, Y = secF ⟨kd, (p + 4 : Nat), some ⟨b, off + (p + 4), none⟩, m, m, c⟩ := ⟨_, rfl⟩
        rw [← hY] at HS7
        have HYY := Lib.hid hY
        clear hY
        go_upto_region 5 with (first
          | (refine wpList_load_all rfl 77 _ rfl gs rfl 77 3 Y _ HS7.out Try.underlying77 rfl sizeSec ?_)
          | (go_at_call 49; rw [HYY.out]; refine HIN.out.mono ?_; rintro e w8 ⟨hT8, h8⟩; obtain ⟨fa, fe, rfl⟩ := h8.form; rw [← HYY.out])
          | (refine wpList_store_all rfl 67 _ _ rfl gf 67 2 _ (ftF fa fe) rfl rfl (HF7.out.touch hT8 (fun e => HNEW.out.2.2.2.2.2.2.1 e.symm)) sizeFt (ftF_one _ _) ?_; intro w10 h10 hT10 hs10))
        have HF10 := Lib.hid h10
        have HNW := HNEW.out
        have HT8 := Lib.hid hT8
        have HT10 := Lib.hid hT10
        have hgf8 := HF7.out.touch hT8 (fun e => HNW.2.2.2.2.2.2.1 e.symm)
        have y5 : w10.cell? ⟨gf, 1, none⟩ = some (.int .i64 fe) := h10.cell 1 (by decide)
        clear y1 HIN hs10 hT8 hT10
        cases hi : into k kd c (m + t.length) with
        | error x =>
          obtain ⟨lf, er⟩ := x
          rw [hi] at h8 HE2
          have hnz := (into_err hi).1
          obtain ⟨he, f8, hf8⟩ := h8
          obtain ⟨e1, e2⟩ := ft_inj he
          have HE3 := Lib.hid (show res = .error (lf, er) from HE2.out.symm)
          have HFA := Lib.hid e1
          have HFE := Lib.hid e2
          have tn : (fe != 0) = true := by rw [bne_iff_ne, e2]; exact hnz
          have HFL := Lib.hid ((HP7.out.flt.touch HT8.out (fun e => HP7.out.ne.2.2.1 e.symm)).touch HT10.out HNW.2.2.2.2.1)
          have HGK := Lib.hid (hf8.touch HT10.out HNW.2.2.2.2.2.2.1)
          have HBW := Lib.hid ((HP7.out.below.trans (HT8.out.below HP7.out.ne.2.2.2.2.2.2.1 HP7.out.lt.2)).trans (HT10.out.below HNW.2.2.1 (Nat.le_trans HP7.out.lt.2 HT8.out.size)))
          have HFAR := Lib.hid (show ∀ j, j < w.heap.size → j ≠ g → j ≠ gk → w10.heap[j]? = w.heap[j]? from fun j hj a c => (HT10.out.block j (Nat.lt_of_lt_of_le hj (Nat.le_trans HP7.out.sz.1 HT8.out.size)) (by have := HNW.2.2.2.2.2.2.2.2.2.2; omega)).trans ((HT8.out.block j (Nat.lt_of_lt_of_le hj HP7.out.sz.1) c).trans (HP7.out.far j hj a c)))
          have HSZ2 := Lib.hid (show w.heap.size ≤ w10.heap.size from Nat.le_trans HP7.out.sz.1 (Nat.le_trans HT8.out.size HT10.out.size))
          have HSZ := Lib.hid (Nat.le_trans (Nat.le_trans HP7.out.lt.2 HT8.out.size) HT10.out.size)
          clear he hf8 e1 e2 hnz hi HE2 hgf8 h10
          go_wp2_with (first
            | (refine wpList_load_all rfl 67 _ rfl gf rfl 67 2 (ftF fa fe) _ HF10.out Try.underlying67 rfl sizeFt ?_)
            | (refine wpList_store_all rfl 67 _ _ rfl gr 67 2 _ (ftF fa fe) rfl rfl HFL.out sizeFt (ftF_one _ _) ?_; intro w11 h11 hT11 hs11))
          refine bodyPost_ret (result_seg rfl _ _ gr _ 2 _ _ rfl h11 Try.underlying67 rfl sizeFt) rfl ?_
          refine ⟨HBW.out.trans (hT11.below HP7.out.ne.2.2.2.2.2.2.2 HSZ.out), fun j hj a c => (hT11.block j (Nat.lt_of_lt_of_le hj HSZ2.out) (by have := HP7.out.sz.2; omega)).trans (HFAR.out j hj a c), ?_⟩
          rw [HE3.out, HFA.out, HFE.out]
          exact ⟨rfl, _, HGK.out.touch hT11 HP7.out.ne.2.2.1⟩
        | ok k2 =>
          rw [hi] at h8 HE2
          obtain ⟨he, vd2, vt2, vc2, hk2⟩ := h8
          obtain ⟨e1, e2⟩ := ft_inj he
          have tn : (fe != 0) = false := by rw [e2]; rfl
          have HE3 := Lib.hid (show packR kd k2 (B.drop (n - t.length)) = res by
            have h5 := HE2.out
            simp only [if_pos HLT.out] at h5
            rw [← HT.out]; exact h5)
          have HP10 := Lib.hid ((HP7.out.at_pk HT8.out hk2).at_tmp HT10.out hgf8 (by decide) (by decide) (by decide) HNW.2.2.2.2.2.2.2.2.1 HNW.2.2.2.2.1 HNW.2.2.2.2.2.2.2.2.2.1 HNW.2.2.1 HNW.2.2.2.2.2.2.2.2.2.2)
          have HAT2 := Lib.hid (show atOf g w10 = ((n - t.length : Nat) : Int) by
            unfold atOf
            rw [show w10.cell? ⟨g, 1, none⟩ = some (.int .i64 ((n - t.length : Nat) : Int)) from HP10.out.rd.cell 1 (by decide)]; rfl)
          clear he e1 e2 hi HE2 hk2 hgf8 h10
          go_wp2_with fail
          go_roundw
          case rel => exact ⟨n - t.length, kd, k2, vd2, vt2, vc2, Nat.sub_le _ _, by have := HKD.out; omega, HE3, HP10.out⟩
          case measure => rw [HAT2.out, HAT.out]; have := HN.out; omega
    · obtain rfl : p = n := by omega
      have HE2 := Lib.hid (show (if last = 0 then .error (0, 120) else .ok k) = res by rw [← HE.out, List.drop_of_length_le (by rw [HL.out]; exact Nat.le_refl _), packR_end])
      have x2 : wr.cell? ⟨g, 2, none⟩ = some (.int .i64 last) := HP.out.rd.cell 2 (by decide)
      clear hlt HE
      go_upto_region 1 with fail
      go_quiet (fail)
      obtain ⟨w2, hw2⟩ : ∃ u, u = wr.drewN nq := ⟨_, rfl⟩
      have HP2 := Lib.hid (show PS w g gk gr base b off p B p last k vd vt vc w2 by rw [hw2]; exact HP.out.drewN nq)
      rw [← hw2]
      clear hw2 x0 x1 x2 HP
      have x2 : w2.cell? ⟨g, 2, none⟩ = some (.int .i64 last) := HP2.out.rd.cell 2 (by decide)
      by_cases hl : last = 0
      · have tl : (last == 0) = true := by rw [hl]; rfl
        have HE3 := Lib.hid (show res = .error (0, 120) by rw [← HE2.out, if_pos hl])
        have HRD := HP2.out.rd
        clear hl HE2
        go_wp2_with (first
          | (go_at_call 50; refine (short_any w2 g _ p p last HRD).mono ?_; rintro e w3 ⟨rfl, hB3⟩)
          | (refine wpList_store_all rfl 67 _ _ rfl gr 67 2 _ (ftF p 120) rfl rfl (HP2.out.up hB3).flt sizeFt (ftF_one _ _) ?_; intro w9 h9 hT9 hs9))
        refine bodyPost_ret (result_seg rfl _ _ gr _ 2 _ _ rfl h9 Try.underlying67 rfl sizeFt) rfl ?_
        have hP3 := HP2.out.up hB3
        refine ⟨hP3.below.trans (hT9.below hP3.ne.2.2.2.2.2.2.2 hP3.lt.2), fun j hj a c => (hT9.block j (Nat.lt_of_lt_of_le hj hP3.sz.1) (by have := hP3.sz.2; omega)).trans (hP3.far j hj a c), ?_⟩
        rw [HE3.out]
        exact ⟨rfl, _, hP3.pk.blk.touch hT9 hP3.ne.2.2.1⟩
      · have tl : (last == 0) = false := by rw [beq_eq_false_iff_ne]; exact hl
        have HE3 := Lib.hid (show res = .ok k by rw [← HE2.out, if_neg hl])
        clear hl HE2
        go_wp2_with (refine wpList_store_all rfl 67 _ _ rfl gr 67 2 _ (ftF 0 0) rfl rfl HP2.out.flt sizeFt (ftF_one _ _) ?_; intro w9 h9 hT9 hs9)
        refine bodyPost_ret (result_seg rfl _ _ gr _ 2 _ _ rfl h9 Try.underlying67 rfl sizeFt) rfl ?_
        refine ⟨HP2.out.below.trans (hT9.below HP2.out.ne.2.2.2.2.2.2.2 HP2.out.lt.2), fun j hj a c => (hT9.block j (Nat.lt_of_lt_of_le hj HP2.out.sz.1) (by have := HP2.out.sz.2; omega)).trans (HP2.out.far j hj a c), ?_⟩
        rw [HE3.out]
        exact ⟨rfl, vd, vt, vc, HP2.out.pk.touch hT9 HP2.out.flt (by decide) (by decide) (by decide)⟩
end Go.Proofs.Ytkfcfoidaalnlaa.Pak
