/- Package pack: what a section says is put into a container: the lengths. -/
import Derived.Test.YtkfcfoidaalnlaaPkL
namespace Go.Proofs.Ytkfcfoidaalnlaa.Pak
open Go.ChangeShapes Go.WideShapes Go.ChangeAt Go.RowKit
set_option linter.unusedVariables false
set_option linter.unusedSimpArgs false
set_option maxRecDepth 100000
theorem ownB_lt {W : World} {base b : Nat} {v : Value} {L : List Int} (h : OwnB W base v L) (hb : v.ownBlock = some b) : base ≤ b ∧ b < W.heap.size := by
  rcases h.2 with ⟨h1, -⟩ | ⟨g, cap, cur, e, hg, hh, -⟩
  · rw [h1] at hb; cases hb
  · rw [e] at hb
    injection hb with hb
    subst hb
    exact ⟨hg, Blk.lt (show Blk W _ _ cur from hh)⟩
/-- a container that is being read: its variable, its lists in new memory -/
structure PkB (W : World) (gk base : Nat) (k : Pk) (vd vt vc : Value) : Prop where
  blk : FB W gk 25 5 (pkF k.lo k.hi vd vt vc)
  data : OwnB W base vd k.data
  tabs : OwnR 60 2 tabF W base vt k.tabs
  code : OwnB W base vc k.code
  dc : ∀ b, vd.ownBlock = some b → vc.ownBlock ≠ some b
theorem PkB.up {W W' : World} {gk base : Nat} {k : Pk} {vd vt vc : Value} (h : PkB W gk base k vd vt vc) (hb : Below W.heap.size W W') : PkB W' gk base k vd vt vc :=
  ⟨h.blk.up hb, ownB_up h.data hb, h.tabs.up hb, ownB_up h.code hb, h.dc⟩
/-- a variable of another type is written to -/
theorem ownB_touch {W W' : World} {g base : Nat} {v : Value} {L : List Int} {t : TypeId} {cs : Array Value} (h : OwnB W base v L) (ht : Touch g W W') (hb : Blk W g t cs) (h1 : 5 ≠ t) : OwnB W' base v L :=
  own_keep h fun b hv hlt => ht.block b hlt fun e => own_blk_ne h hb h1 (by rw [hv, e])
theorem ownT_touch {W W' : World} {g base : Nat} {v : Value} {l : List (Int × Int)} {t : TypeId} {cs : Array Value} (h : OwnR 60 2 tabF W base v l) (ht : Touch g W W') (hb : Blk W g t cs) (h1 : 60 ≠ t) : OwnR 60 2 tabF W' base v l :=
  own_keep h fun b hv hlt => ht.block b hlt fun e => own_blk_ne h hb h1 (by rw [hv, e])
theorem sl_touch {W W' : World} {g : Nat} {A : Option Addr} {n c : Nat} {L : List Int} (h : Sl W A n c L) (ht : Touch g W W') (hne : ∀ b off, A = some ⟨b, off, none⟩ → b ≠ g) : Sl W' A n c L :=
  ⟨h.len, h.cap, fun hp => by
    obtain ⟨b, off, e, h1, h2⟩ := h.byt hp
    exact ⟨b, off, e, Nat.lt_of_lt_of_le h1 ht.size, fun i hi => (cell_same (ht.block b h1 (hne b off e)) _).trans (h2 i hi)⟩, fun b off e => Nat.lt_of_lt_of_le (h.lt b off e) ht.size⟩
/-- what into answers: n bytes stand ahead of the sum -/
def IntoRes (n gk base : Nat) (r : Except Fl Pk) (e : Ending) (w' : World) : Prop := match r with
  | .error (lf, er) => e = .returned (.agg (arr 2 (ftF (n - lf : Nat) er))) ∧ ∃ f, FB w' gk 25 5 f
  | .ok k => e = .returned (.agg (arr 2 (ftF 0 0))) ∧ ∃ vd vt vc, PkB w' gk base k vd vt vc
structure LenS (w : World) (gk gb gf b off : Nat) (X : Nat → Value) (L : List Int) (W : World) : Prop where
  pk : ∃ f, FB W gk 25 5 f
  box : FB W gb 77 3 X
  byt : BytesAt W (some ⟨b, off, none⟩) L
  flt : FB W gf 67 2 (ftF 0 0)
  touch : Touch gk w W
  ne : gk ≠ gb ∧ gk ≠ gf ∧ gb ≠ gf ∧ b ≠ gk ∧ w.heap.size ≤ gb ∧ w.heap.size ≤ gf
theorem LenS.drewN {w : World} {gk gb gf b off : Nat} {X : Nat → Value} {L : List Int} {W : World} (h : LenS w gk gb gf b off X L W) (m : Nat) : LenS w gk gb gf b off X L (W.drewN m) :=
  ⟨h.pk.imp fun _ h1 => h1.drewN m, h.box.drewN m, h.byt, h.flt.drewN m, h.touch.trans (Touch.drewN W m), h.ne⟩
theorem LenS.at_pk {w : World} {gk gb gf b off : Nat} {X : Nat → Value} {L : List Int} {W W' : World} {f : Nat → Value} (h : LenS w gk gb gf b off X L W) (ht : Touch gk W W') (hf : FB W' gk 25 5 f) : LenS w gk gb gf b off X L W' := by
  obtain ⟨n1, n2, n3, n4, n5, n6⟩ := h.ne
  exact ⟨⟨f, hf⟩, h.box.touch ht (fun e => n1 e.symm), bytes_touch h.byt ht n4, h.flt.touch ht (fun e => n2 e.symm), h.touch.trans ht, h.ne⟩
set_option maxHeartbeats 4000000 in
theorem lensM_any (w : World) (gk base n b off left : Nat) (k : Pk) (vd vt vc : Value) (kd at_ : Int) (L : List Int) (hk : PkB w gk base k vd vt vc) (hL : L.length = 4) (hY : Bytes L) (hA : BytesAt w (some ⟨b, off, none⟩) L) (hne : b ≠ gk) (hat : at_ = (n - left : Nat)) :
    Calls Try.prog 57 #[.agg (arr 3 (secF ⟨kd, at_, some ⟨b, off, none⟩, 4, 4, L⟩)), .pointer (some ⟨gk, 0, none⟩)] w fun e w' => Touch gk w w' ∧ IntoRes n gk base (into k 1 L left) e w' := by
  obtain ⟨X, hX⟩ : ∃ X, X = secF ⟨kd, at_, some ⟨b, off, none⟩, 4, 4, L⟩ := ⟨_, rfl⟩
  rw [← hX]
  have HX := Lib.hid hX
  have HK := Lib.hid hk
  have HL := Lib.hid hL
  have HY := Lib.hid hY
  have HA := Lib.hid hA
  have HAT := Lib.hid hat
  clear hX hk hL hY hA hat
  obtain ⟨r, hr⟩ : ∃ r, r = into k 1 L left := ⟨_, rfl⟩
  rw [← hr]
  have HR := Lib.hid hr
  clear hr
  obtain ⟨lo, hlo⟩ : ∃ lo, lo = num (L.take 2) := ⟨_, rfl⟩
  obtain ⟨hi, hhi⟩ : ∃ hi, hi = num (L.drop 2) := ⟨_, rfl⟩
  have HI := Lib.hid (show into k 1 L left = if hi < lo then .error (left, 121) else .ok { k with lo := lo, hi := hi } by unfold into; rw [if_pos rfl, ← hlo, ← hhi])
  have HN1 := Lib.hid (fun (W : World) (h : BytesAt W (some ⟨b, off, none⟩) L) => number_any W (some ⟨b, off, none⟩) 2 4 (L.take 2) (by rw [List.length_take]; have := HL.out; omega) (by decide) (HY.out.take 2) (by
    have := bytes_part (p := 0) (m := 2) (M := L.take 2) h rfl (by have := HL.out; omega)
    rwa [Nat.add_zero] at this))
  have HN2 := Lib.hid (fun (W : World) (h : BytesAt W (some ⟨b, off, none⟩) L) => number_any W (some ⟨b, off + 2, none⟩) 2 2 (L.drop 2) (by rw [List.length_drop]; have := HL.out; omega) (by decide) (HY.out.drop 2)
    (bytes_part (p := 2) (m := 2) (M := L.drop 2) h (by rw [List.take_of_length_le]; rw [List.length_drop]; have := HL.out; omega) (by have := HL.out; omega)))
  rw [← hlo] at HN1
  rw [← hhi] at HN2
  clear hlo hhi
  go_enter Try.func57, Try.ntmps57
  go_upto_region 1 with (first
    | (refine wpList_box_seg rfl _ (.tmp 0) rfl 3 X rfl ?_; intro w1 h1 hB1 hs1)
    | (refine wpList_alloc_seg rfl 67 rfl 2 (ftF 0 0) zeroFt ?_; intro w2 h2 hB2 hs2))
  obtain ⟨gb, hgb⟩ : ∃ gb, gb = w.heap.size := ⟨_, rfl⟩
  obtain ⟨gf, hgf⟩ : ∃ gf, gf = w1.heap.size := ⟨_, rfl⟩
  rw [← hgb] at h1 ⊢
  rw [← hgf] at h2 ⊢
  have hb2 : Below w.heap.size w w2 := hB1.trans (hB2.mono hB1.size)
  have HP := Lib.hid (HK.out.blk.up hb2)
  have HS := Lib.hid (show LenS w gk gb gf b off X L w2 from ⟨⟨_, HP.out⟩, h1.up hB2, HA.out.below hb2, h2, Touch.of_below hb2, by
    have h3 := HK.out.blk.lt
    exact ⟨by omega, by omega, by omega, hne, by omega, by omega⟩⟩)
  clear h1 hB1 hs1 h2 hB2 hs2 hgb hgf hb2 HA hne
  refine wp_region_held_drew (S := fun W => LenS w gk gb gf b off X L W) (by kernel_rfl) (HS.out.drewN 1) (fun hHeld => ?_)

  refine wpAnyH_take (i := 0) (oi := { dst := some 5, op := Op.move (Operand.tmp 1), type := 73, pos := "read.go:113", after := #[], guard := none }) (v := .pointer (some ⟨gk, 0, none⟩)) rfl (by kernel_rfl) (by kernel_rfl) (by kernel_rfl) (fun _ _ _ h => h) (Or.inl ⟨by rfl, ?_⟩) (by assumption) ?_
  · intro w hSw
    go_simp
  try simp only [Act.put, List.setIfInBounds_toArray, List.set_cons_zero, List.set_cons_succ]
  refine wpAnyH_take (i := 1) (oi := { dst := some 6, op := Op.move (Operand.tmp 1), type := 73, pos := "read.go:113", after := #[{ on := 12, ground := Ground.gcOnly Departure.lateStores }], guard := none }) (v := .pointer (some ⟨gk, 0, none⟩)) rfl (by kernel_rfl) (by kernel_rfl) (by kernel_rfl) (fun _ _ _ h => h) (Or.inl ⟨by rfl, ?_⟩) (by assumption) ?_
  · intro w hSw
    go_simp
  try simp only [Act.put, List.setIfInBounds_toArray, List.set_cons_zero, List.set_cons_succ]
  refine wpAnyH_take (i := 2) (oi := { dst := some 7, op := Op.fieldAddr 77 (Operand.tmp 2) 2, type := 0, pos := "read.go:113", after := #[], guard := none }) (v := .pointer (some ⟨gb, 2, none⟩)) rfl (by kernel_rfl) (by kernel_rfl) (by kernel_rfl) (fun _ _ _ h => h) (Or.inl ⟨by rfl, ?_⟩) (by assumption) ?_
  · intro w hSw
    go_simp
  try simp only [Act.put, List.setIfInBounds_toArray, List.set_cons_zero, List.set_cons_succ]
  refine wpAnyH_take (i := 3) (oi := { dst := some 8, op := Op.load 22 (Operand.tmp 7), type := 22, pos := "read.go:113", after := #[{ on := 2, ground := Ground.data }], guard := none }) (v := .slice (some ⟨b, off, none⟩) 4 4) rfl (by kernel_rfl) (by kernel_rfl) (by kernel_rfl) (fun _ _ _ h => h) (Or.inl ⟨by rfl, ?_⟩) (by assumption) ?_
  · intro w hSw
    have y2 : w.cell? ⟨gb, 2, none⟩ = some (.slice (some ⟨b, off, none⟩) 4 4) := by rw [hSw.box.cell 2 (by decide), HX.out]; rfl
    go_simp
  try simp only [Act.put, List.setIfInBounds_toArray, List.set_cons_zero, List.set_cons_succ]
  refine wpAnyH_take (i := 4) (oi := { dst := some 9, op := Op.slice 22 (Operand.tmp 8) none (some (Operand.const (Value.int IntKind.i64 2))) none, type := 22, pos := "read.go:113", after := #[{ on := 3, ground := Ground.data }], guard := none }) (v := .slice (some ⟨b, off, none⟩) 2 4) rfl (by kernel_rfl) (by kernel_rfl) (by kernel_rfl) (fun _ _ _ h => h) (Or.inl ⟨by rfl, ?_⟩) (by assumption) ?_
  · intro w hSw
    go_simp
  try simp only [Act.put, List.setIfInBounds_toArray, List.set_cons_zero, List.set_cons_succ]
  refine wpAnyH_take (i := 6) (oi := { dst := some 11, op := Op.fieldAddr 77 (Operand.tmp 2) 2, type := 0, pos := "read.go:113", after := #[], guard := none }) (v := .pointer (some ⟨gb, 2, none⟩)) rfl (by kernel_rfl) (by kernel_rfl) (by kernel_rfl) (fun _ _ _ h => h) (Or.inl ⟨by rfl, ?_⟩) (by assumption) ?_
  · intro w hSw
    go_simp
  try simp only [Act.put, List.setIfInBounds_toArray, List.set_cons_zero, List.set_cons_succ]
  refine wpAnyH_take (i := 7) (oi := { dst := some 12, op := Op.load 22 (Operand.tmp 11), type := 22, pos := "read.go:113", after := #[{ on := 6, ground := Ground.data }], guard := none }) (v := .slice (some ⟨b, off, none⟩) 4 4) rfl (by kernel_rfl) (by kernel_rfl) (by kernel_rfl) (fun _ _ _ h => h) (Or.inl ⟨by rfl, ?_⟩) (by assumption) ?_
  · intro w hSw
    have y2 : w.cell? ⟨gb, 2, none⟩ = some (.slice (some ⟨b, off, none⟩) 4 4) := by rw [hSw.box.cell 2 (by decide), HX.out]; rfl
    go_simp
  try simp only [Act.put, List.setIfInBounds_toArray, List.set_cons_zero, List.set_cons_succ]
  refine wpAnyH_take (i := 8) (oi := { dst := some 13, op := Op.slice 22 (Operand.tmp 12) (some (Operand.const (Value.int IntKind.i64 2))) none none, type := 22, pos := "read.go:113", after := #[{ on := 7, ground := Ground.data }], guard := none }) (v := .slice (some ⟨b, off + 2, none⟩) 2 2) rfl (by kernel_rfl) (by kernel_rfl) (by kernel_rfl) (fun _ _ _ h => h) (Or.inl ⟨by rfl, ?_⟩) (by assumption) ?_
  · intro w hSw
    go_simp
  try simp only [Act.put, List.setIfInBounds_toArray, List.set_cons_zero, List.set_cons_succ]
  refine wpAnyH_ready (rs := [5]) (by kernel_rfl) (by simp) ?_
  refine AllReadyH.cons (o := { dst := some 10, op := Op.call { callee := Callee.value (Operand.func 47), args := #[Operand.tmp 9], argTypes := #[22] }, type := 3, pos := "read.go:113", after := #[{ on := 4, ground := Ground.data }], guard := none }) rfl ?_ ?_
  rotate_left
  · exact AllReadyH.nil
  intro K hK
  go_simp
  go_at_call 47
  refine (HN1.out _ hHeld.byt).mono ?_
  rintro e w5 ⟨rfl, rfl⟩
  refine hK.out _ _ hHeld (fun hHeld => ?_)
  clear hK K
  try simp only [Act.put, List.setIfInBounds_toArray, List.set_cons_zero, List.set_cons_succ]
  refine wpAnyH_ready (rs := [9]) (by kernel_rfl) (by simp) ?_
  refine AllReadyH.cons (o := { dst := some 14, op := Op.call { callee := Callee.value (Operand.func 47), args := #[Operand.tmp 13], argTypes := #[22] }, type := 3, pos := "read.go:113", after := #[{ on := 8, ground := Ground.data }, { on := 5, ground := Ground.chain }], guard := none }) rfl ?_ ?_
  rotate_left
  · exact AllReadyH.nil
  intro K hK
  go_simp
  go_at_call 47
  refine (HN2.out _ hHeld.byt).mono ?_
  rintro e w9 ⟨rfl, rfl⟩
  refine hK.out _ _ hHeld (fun hHeld => ?_)
  clear hK K
  try simp only [Act.put, List.setIfInBounds_toArray, List.set_cons_zero, List.set_cons_succ]
  refine wpAnyH_take (i := 10) (oi := { dst := some 15, op := Op.nilCheck (Operand.tmp 5), type := 0, pos := "read.go:113", after := #[{ on := 0, ground := Ground.data }, { on := 0, ground := Ground.phase }, { on := 1, ground := Ground.textOnly Departure.lateStores }, { on := 2, ground := Ground.phase }, { on := 3, ground := Ground.phase }, { on := 4, ground := Ground.phase }, { on := 5, ground := Ground.phase }, { on := 6, ground := Ground.textOnly Departure.lateStores }, { on := 7, ground := Ground.textOnly Departure.lateStores }, { on := 8, ground := Ground.textOnly Departure.lateStoresUnsure }, { on := 9, ground := Ground.phase }], guard := none }) (v := .pointer (some ⟨gk, 0, none⟩)) rfl (by kernel_rfl) (by kernel_rfl) (by kernel_rfl) (fun _ _ _ h => h) (Or.inl ⟨by rfl, ?_⟩) (by assumption) ?_
  · intro w hSw
    go_simp
  try simp only [Act.put, List.setIfInBounds_toArray, List.set_cons_zero, List.set_cons_succ]
  refine wpAnyH_take (i := 11) (oi := { dst := some 16, op := Op.fieldAddr 25 (Operand.tmp 15) 0, type := 0, pos := "read.go:113", after := #[{ on := 10, ground := Ground.data }, { on := 0, ground := Ground.phase }, { on := 1, ground := Ground.textOnly Departure.lateStores }, { on := 2, ground := Ground.phase }, { on := 3, ground := Ground.phase }, { on := 4, ground := Ground.phase }, { on := 5, ground := Ground.phase }, { on := 6, ground := Ground.textOnly Departure.lateStores }, { on := 7, ground := Ground.textOnly Departure.lateStores }, { on := 8, ground := Ground.textOnly Departure.lateStoresUnsure }, { on := 9, ground := Ground.phase }], guard := none }) (v := .pointer (some ⟨gk, 0, none⟩)) rfl (by kernel_rfl) (by kernel_rfl) (by kernel_rfl) (fun _ _ _ h => h) (Or.inl ⟨by rfl, ?_⟩) (by assumption) ?_
  · intro w hSw
    go_simp
  try simp only [Act.put, List.setIfInBounds_toArray, List.set_cons_zero, List.set_cons_succ]
  obtain ⟨WA, hWA⟩ : ∃ u, u = w2.drew := ⟨_, rfl⟩
  have HFA := Lib.hid (show FB WA gk 25 5 (pkF k.lo k.hi vd vt vc) by rw [hWA]; exact HP.out)
  rw [← hWA] at hHeld ⊢
  clear hWA HS
  refine wpAnyH_ready (rs := [12]) (by kernel_rfl) (by simp) ?_
  refine AllReadyH.cons (o := { dst := none, op := Op.store 3 (Operand.tmp 16) (Operand.tmp 10), type := 0, pos := "read.go:113", after := #[{ on := 11, ground := Ground.data }, { on := 5, ground := Ground.data }, { on := 9, ground := Ground.chain }, { on := 0, ground := Ground.phase }, { on := 1, ground := Ground.textOnly Departure.lateStores }, { on := 2, ground := Ground.phase }, { on := 3, ground := Ground.phase }, { on := 4, ground := Ground.phase }, { on := 5, ground := Ground.phase }, { on := 6, ground := Ground.textOnly Departure.lateStores }, { on := 7, ground := Ground.textOnly Departure.lateStores }, { on := 8, ground := Ground.textOnly Departure.lateStoresUnsure }, { on := 9, ground := Ground.phase }], guard := none }) rfl ?_ ?_
  rotate_left
  · exact AllReadyH.nil
  intro K hK
  have q0 : _ = some (pkF k.lo k.hi vd vt vc 0) := HFA.out.cell 0 (by decide)
  have f0 := HFA.out.frozen 0
  go_simp
  obtain ⟨wB, hwB⟩ : ∃ u, u = World.setCell WA ⟨gk, 0, none⟩ (.int .i64 lo) := ⟨_, rfl⟩
  have hFB : FB wB gk 25 5 (upd (pkF k.lo k.hi vd vt vc) 0 (.int .i64 lo)) := by rw [hwB]; exact HFA.out.set_ 0 _
  have HSB := Lib.hid (hHeld.at_pk (show Touch gk WA wB by rw [hwB]; exact Touch.set_ _ _ _) hFB)
  have HFB := Lib.hid hFB
  rw [← hwB]
  clear hwB hFB q0 f0 hHeld HFA
  refine hK.out _ _ HSB.out (fun hHeld => ?_)
  clear hK K
  try simp only [Act.put, List.setIfInBounds_toArray, List.set_cons_zero, List.set_cons_succ]
  refine wpAnyH_take (i := 13) (oi := { dst := some 17, op := Op.nilCheck (Operand.tmp 6), type := 0, pos := "read.go:113", after := #[{ on := 1, ground := Ground.data }, { on := 0, ground := Ground.phase }, { on := 1, ground := Ground.phase }, { on := 2, ground := Ground.phase }, { on := 3, ground := Ground.phase }, { on := 4, ground := Ground.phase }, { on := 5, ground := Ground.phase }, { on := 6, ground := Ground.phase }, { on := 7, ground := Ground.phase }, { on := 8, ground := Ground.phase }, { on := 9, ground := Ground.phase }, { on := 10, ground := Ground.phase }, { on := 11, ground := Ground.phase }, { on := 12, ground := Ground.phase }], guard := none }) (v := .pointer (some ⟨gk, 0, none⟩)) rfl (by kernel_rfl) (by kernel_rfl) (by kernel_rfl) (fun _ _ _ h => h) (Or.inl ⟨by rfl, ?_⟩) (by assumption) ?_
  · intro w hSw
    go_simp
  try simp only [Act.put, List.setIfInBounds_toArray, List.set_cons_zero, List.set_cons_succ]
  refine wpAnyH_take (i := 14) (oi := { dst := some 18, op := Op.fieldAddr 25 (Operand.tmp 17) 1, type := 0, pos := "read.go:113", after := #[{ on := 13, ground := Ground.data }, { on := 0, ground := Ground.phase }, { on := 1, ground := Ground.phase }, { on := 2, ground := Ground.phase }, { on := 3, ground := Ground.phase }, { on := 4, ground := Ground.phase }, { on := 5, ground := Ground.phase }, { on := 6, ground := Ground.phase }, { on := 7, ground := Ground.phase }, { on := 8, ground := Ground.phase }, { on := 9, ground := Ground.phase }, { on := 10, ground := Ground.phase }, { on := 11, ground := Ground.phase }, { on := 12, ground := Ground.phase }], guard := none }) (v := .pointer (some ⟨gk, 1, none⟩)) rfl (by kernel_rfl) (by kernel_rfl) (by kernel_rfl) (fun _ _ _ h => h) (Or.inl ⟨by rfl, ?_⟩) (by assumption) ?_
  · intro w hSw
    go_simp
  try simp only [Act.put, List.setIfInBounds_toArray, List.set_cons_zero, List.set_cons_succ]
  obtain ⟨WB, hWB⟩ : ∃ u, u = wB := ⟨_, rfl⟩
  rw [← hWB] at HFB hHeld ⊢
  clear hWB HSB
  refine wpAnyH_ready (rs := [15]) (by kernel_rfl) (by simp) ?_
  refine AllReadyH.cons (o := { dst := none, op := Op.store 3 (Operand.tmp 18) (Operand.tmp 14), type := 0, pos := "read.go:113", after := #[{ on := 14, ground := Ground.data }, { on := 9, ground := Ground.data }, { on := 12, ground := Ground.chain }, { on := 0, ground := Ground.phase }, { on := 1, ground := Ground.phase }, { on := 2, ground := Ground.phase }, { on := 3, ground := Ground.phase }, { on := 4, ground := Ground.phase }, { on := 5, ground := Ground.phase }, { on := 6, ground := Ground.phase }, { on := 7, ground := Ground.phase }, { on := 8, ground := Ground.phase }, { on := 9, ground := Ground.phase }, { on := 10, ground := Ground.phase }, { on := 11, ground := Ground.phase }, { on := 12, ground := Ground.phase }], guard := none }) rfl ?_ ?_
  rotate_left
  · exact AllReadyH.nil
  intro K hK
  have q0 : _ = some (upd (pkF k.lo k.hi vd vt vc) 0 (.int .i64 lo) 1) := HFB.out.cell 1 (by decide)
  have f0 := HFB.out.frozen 1
  go_simp
  obtain ⟨wC, hwC⟩ : ∃ u, u = World.setCell WB ⟨gk, 1, none⟩ (.int .i64 hi) := ⟨_, rfl⟩
  have hFC : FB wC gk 25 5 (upd (upd (pkF k.lo k.hi vd vt vc) 0 (.int .i64 lo)) 1 (.int .i64 hi)) := by rw [hwC]; exact HFB.out.set_ 1 _
  have HSC := Lib.hid (hHeld.at_pk (show Touch gk WB wC by rw [hwC]; exact Touch.set_ _ _ _) hFC)
  have HFC := Lib.hid hFC
  rw [← hwC]
  clear hwC hFC q0 f0 hHeld HFB
  refine hK.out _ _ HSC.out (fun hHeld => ?_)
  clear hK K
  try simp only [Act.put, List.setIfInBounds_toArray, List.set_cons_zero, List.set_cons_succ]
  clear hHeld
  refine wpAnyH_done (by kernel_rfl) ?_ _
  have HFD := Lib.hid (show FB wC gk 25 5 (pkF lo hi vd vt vc) from HFC.out.congr fun q hq => by
    rcases (show q = 0 ∨ q = 1 ∨ q = 2 ∨ q = 3 ∨ q = 4 by omega) with rfl | rfl | rfl | rfl | rfl <;> rfl)
  have y0 : wC.cell? ⟨gk, 0, none⟩ = some (.int .i64 lo) := HFD.out.cell 0 (by decide)
  have y1 : wC.cell? ⟨gk, 1, none⟩ = some (.int .i64 hi) := HFD.out.cell 1 (by decide)
  clear HFC
  have hne1 := HSC.out.ne
  by_cases hlt : hi < lo
  · have t1 : decide (hi < lo) = true := decide_eq_true hlt
    rw [if_pos hlt] at HI
    have HLT := Lib.hid hlt
    clear hlt
    go_upto_region 2 with fail
    go_quiet (fail)
    obtain ⟨wE, hwE⟩ : ∃ u, u = wC.drewN nq := ⟨_, rfl⟩
    have HFE := Lib.hid (show FB wE gk 25 5 (pkF lo hi vd vt vc) by rw [hwE]; exact HFD.out.drewN nq)
    have HSE := Lib.hid (show LenS w gk gb gf b off X L wE by rw [hwE]; exact HSC.out.drewN nq)
    rw [← hwE]
    clear hwE y0 y1 HFD HSC HN1 HN2
    have z1 : wE.cell? ⟨gb, 1, none⟩ = some (.int .i64 at_) := by rw [HSE.out.box.cell 1 (by decide), HX.out]; rfl
    go_wp2_with (refine wpList_store_all rfl 67 _ _ rfl gf 67 2 _ (ftF at_ 121) rfl rfl HSE.out.flt sizeFt (ftF_one _ _) ?_; intro w7 h7 hT7 hs7)
    refine bodyPost_ret (result_seg rfl _ _ gf _ 2 _ _ rfl h7 Try.underlying67 rfl sizeFt) rfl ⟨touch_then HSE.out.touch (hT7.below hne1.2.2.2.2.2 HSE.out.touch.size), ?_⟩
    rw [HR.out, HI.out]
    exact ⟨by rw [HAT.out], _, HFE.out.touch hT7 hne1.2.1⟩
  · have t1 : decide (hi < lo) = false := decide_eq_false hlt
    rw [if_neg hlt] at HI
    clear hlt
    go_upto_region 2 with fail
    go_quiet (fail)
    obtain ⟨wE, hwE⟩ : ∃ u, u = wC.drewN nq := ⟨_, rfl⟩
    have HFE := Lib.hid (show FB wE gk 25 5 (pkF lo hi vd vt vc) by rw [hwE]; exact HFD.out.drewN nq)
    have HSE := Lib.hid (show LenS w gk gb gf b off X L wE by rw [hwE]; exact HSC.out.drewN nq)
    rw [← hwE]
    clear hwE y0 y1 HFD HSC HN1 HN2
    go_wp2_with (refine wpList_store_all rfl 67 _ _ rfl gf 67 2 _ (ftF 0 0) rfl rfl HSE.out.flt sizeFt (ftF_one _ _) ?_; intro w7 h7 hT7 hs7)
    refine bodyPost_ret (result_seg rfl _ _ gf _ 2 _ _ rfl h7 Try.underlying67 rfl sizeFt) rfl ?_
    have hTT := touch_then HSE.out.touch (hT7.below hne1.2.2.2.2.2 HSE.out.touch.size)
    refine ⟨hTT, ?_⟩
    rw [HR.out, HI.out]
    exact ⟨rfl, vd, vt, vc, HFE.out.touch hT7 hne1.2.1, ownB_touch HK.out.data hTT HK.out.blk (by decide), ownT_touch HK.out.tabs hTT HK.out.blk (by decide), ownB_touch HK.out.code hTT HK.out.blk (by decide), HK.out.dc⟩
end Go.Proofs.Ytkfcfoidaalnlaa.Pak
