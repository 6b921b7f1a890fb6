/- Texts in one: PkN PkO PkP PkQ PkR PkS PkT PkU PkV PkW. -/
import Derived.Test.YtlodoinmippebaaDoorPkL
/- Package pack: what a section says is put into a container: the lengths. -/
namespace Go.Proofs.YtlodoinmippebaaDoor.Pak
open Go.ChangeShapes Go.WideShapes Go.ChangeAt Go.RowKit
set_option linter.unusedVariables false
set_option linter.unusedSimpArgs false
set_option maxRecDepth 100000
/-- a container that is being read: its variable, its lists in new memory -/
structure PkB (W : World) (gk base : Nat) (k : Pk) (vd vt vc : Value) : Prop where
  blk : FB W gk 25 5 (pkF k.lo k.hi vd vt vc)
  data : OwnB W base vd k.data
  tabs : OwnR 69 2 tabF W base vt k.tabs
  code : OwnB W base vc k.code
theorem PkB.up {W W' : World} {gk base : Nat} {k : Pk} {vd vt vc : Value} (h : PkB W gk base k vd vt vc) (hb : Below W.heap.size W W') : PkB W' gk base k vd vt vc :=
  ⟨h.blk.up hb, ownB_up h.data hb, h.tabs.up hb, ownB_up h.code hb⟩
/-- a variable of another type is written to -/
theorem ownB_touch {W W' : World} {g base : Nat} {v : Value} {L : List Int} {t : TypeId} {cs : Array Value} (h : OwnB W base v L) (ht : Touch g W W') (hb : Blk W g t cs) (h1 : 5 ≠ t) : OwnB W' base v L :=
  own_keep h fun b hv hlt => ht.block b hlt fun e => own_blk_ne h hb h1 (by rw [hv, e])
theorem ownT_touch {W W' : World} {g base : Nat} {v : Value} {l : List (Int × Int)} {t : TypeId} {cs : Array Value} (h : OwnR 69 2 tabF W base v l) (ht : Touch g W W') (hb : Blk W g t cs) (h1 : 69 ≠ t) : OwnR 69 2 tabF W' base v l :=
  own_keep h fun b hv hlt => ht.block b hlt fun e => own_blk_ne h hb h1 (by rw [hv, e])
theorem sl_touch {W W' : World} {g : Nat} {A : Option Addr} {n c : Nat} {L : List Int} (h : Sl W A n c L) (ht : Touch g W W') (hne : ∀ b off, A = some ⟨b, off, none⟩ → b ≠ g) : Sl W' A n c L :=
  ⟨h.len, h.cap, fun hp => by
    obtain ⟨b, off, e, h1, h2⟩ := h.byt hp
    exact ⟨b, off, e, Nat.lt_of_lt_of_le h1 ht.size, fun i hi => (cell_same (ht.block b h1 (hne b off e)) _).trans (h2 i hi)⟩, fun b off e => Nat.lt_of_lt_of_le (h.lt b off e) ht.size⟩
/-- what into answers: n bytes stand ahead of the sum -/
def IntoRes (n gk base : Nat) (r : Except Fl Pk) (e : Ending) (w' : World) : Prop := match r with
  | .error (lf, er) => e = .returned (.agg (arr 2 (ftF (n - lf : Nat) er))) ∧ ∃ f, FB w' gk 25 5 f
  | .ok k => e = .returned (.agg (arr 2 (ftF 0 0))) ∧ ∃ vd vt vc, PkB w' gk base k vd vt vc
structure LenS (w : World) (gk gb gf b off : Nat) (X : Nat → Value) (L : List Int) (W : World) : Prop where
  pk : ∃ f, FB W gk 25 5 f
  box : FB W gb 135 3 X
  byt : BytesAt W (some ⟨b, off, none⟩) L
  flt : FB W gf 94 2 (ftF 0 0)
  touch : Touch gk w W
  ne : gk ≠ gb ∧ gk ≠ gf ∧ gb ≠ gf ∧ b ≠ gk ∧ w.heap.size ≤ gb ∧ w.heap.size ≤ gf
theorem LenS.drewN {w : World} {gk gb gf b off : Nat} {X : Nat → Value} {L : List Int} {W : World} (h : LenS w gk gb gf b off X L W) (m : Nat) : LenS w gk gb gf b off X L (W.drewN m) :=
  ⟨h.pk.imp fun _ h1 => h1.drewN m, h.box.drewN m, h.byt, h.flt.drewN m, h.touch.trans (Touch.drewN W m), h.ne⟩
theorem LenS.at_pk {w : World} {gk gb gf b off : Nat} {X : Nat → Value} {L : List Int} {W W' : World} {f : Nat → Value} (h : LenS w gk gb gf b off X L W) (ht : Touch gk W W') (hf : FB W' gk 25 5 f) : LenS w gk gb gf b off X L W' := by
  obtain ⟨n1, n2, n3, n4, n5, n6⟩ := h.ne
  exact ⟨⟨f, hf⟩, h.box.touch ht (fun e => n1 e.symm), bytes_touch h.byt ht n4, h.flt.touch ht (fun e => n2 e.symm), h.touch.trans ht, h.ne⟩
set_option maxHeartbeats 4000000 in
theorem lensM_any (w : World) (gk base n b off left : Nat) (k : Pk) (vd vt vc : Value) (kd at_ : Int) (L : List Int) (hk : PkB w gk base k vd vt vc) (hL : L.length = 4) (hY : Bytes L) (hA : BytesAt w (some ⟨b, off, none⟩) L) (hne : b ≠ gk) (hat : at_ = (n - left : Nat)) :
    Calls Tryd.prog 109 #[.agg (arr 3 (secF ⟨kd, at_, some ⟨b, off, none⟩, 4, 4, L⟩)), .pointer (some ⟨gk, 0, none⟩)] w fun e w' => Touch gk w w' ∧ IntoRes n gk base (into k 1 L left) e w' := by
  obtain ⟨X, hX⟩ : ∃ X, X = secF ⟨kd, at_, some ⟨b, off, none⟩, 4, 4, L⟩ := ⟨_, rfl⟩
  rw [← hX]
  have HX := Lib.hid hX
  have HK := Lib.hid hk
  have HL := Lib.hid hL
  have HY := Lib.hid hY
  have HA := Lib.hid hA
  have HAT := Lib.hid hat
  clear hX hk hL hY hA hat
  obtain ⟨r, hr⟩ : ∃ r, r = into k 1 L left := ⟨_, rfl⟩
  rw [← hr]
  have HR := Lib.hid hr
  clear hr
  obtain ⟨lo, hlo⟩ : ∃ lo, lo = num (L.take 2) := ⟨_, rfl⟩
  obtain ⟨hi, hhi⟩ : ∃ hi, hi = num (L.drop 2) := ⟨_, rfl⟩
  have HI := Lib.hid (show into k 1 L left = if hi < lo then .error (left, 121) else .ok { k with lo := lo, hi := hi } by unfold into; rw [if_pos rfl, ← hlo, ← hhi])
  have HN1 := Lib.hid (fun (W : World) (h : BytesAt W (some ⟨b, off, none⟩) L) => number_any W (some ⟨b, off, none⟩) 2 4 (L.take 2) (by rw [List.length_take]; have := HL.out; omega) (by decide) (HY.out.take 2) (by
    have := bytes_part (p := 0) (m := 2) (M := L.take 2) h rfl (by have := HL.out; omega)
    rwa [Nat.add_zero] at this))
  have HN2 := Lib.hid (fun (W : World) (h : BytesAt W (some ⟨b, off, none⟩) L) => number_any W (some ⟨b, off + 2, none⟩) 2 2 (L.drop 2) (by rw [List.length_drop]; have := HL.out; omega) (by decide) (HY.out.drop 2)
    (bytes_part (p := 2) (m := 2) (M := L.drop 2) h (by rw [List.take_of_length_le]; rw [List.length_drop]; have := HL.out; omega) (by have := HL.out; omega)))
  rw [← hlo] at HN1
  rw [← hhi] at HN2
  clear hlo hhi
  go_enter Tryd.func109, Tryd.ntmps109
  go_upto_region 1 with (first
    | (refine wpList_box_seg rfl _ (.tmp 0) rfl 3 X rfl ?_; intro w1 h1 hB1 hs1)
    | (refine wpList_alloc_seg rfl 94 rfl 2 (ftF 0 0) zeroFt ?_; intro w2 h2 hB2 hs2))
  obtain ⟨gb, hgb⟩ : ∃ gb, gb = w.heap.size := ⟨_, rfl⟩
  obtain ⟨gf, hgf⟩ : ∃ gf, gf = w1.heap.size := ⟨_, rfl⟩
  rw [← hgb] at h1 ⊢
  rw [← hgf] at h2 ⊢
  have hb2 : Below w.heap.size w w2 := hB1.trans (hB2.mono hB1.size)
  have HP := Lib.hid (HK.out.blk.up hb2)
  have HS := Lib.hid (show LenS w gk gb gf b off X L w2 from ⟨⟨_, HP.out⟩, h1.up hB2, HA.out.below hb2, h2, Touch.of_below hb2, by
    have h3 := HK.out.blk.lt
    exact ⟨by omega, by omega, by omega, hne, by omega, by omega⟩⟩)
  clear h1 hB1 hs1 h2 hB2 hs2 hgb hgf hb2 HA hne
  refine wp_region_held_drew (S := fun W => LenS w gk gb gf b off X L W) (by kernel_rfl) (HS.out.drewN 1) (fun hHeld => ?_)

  refine wpAnyH_take (i := 0) (oi := { dst := some 5, op := Op.move (Operand.tmp 1), type := 100, pos := "read.go:113", after := #[], guard := none }) (v := .pointer (some ⟨gk, 0, none⟩)) rfl (by kernel_rfl) (by kernel_rfl) (by kernel_rfl) (fun _ _ _ h => h) (Or.inl ⟨by rfl, ?_⟩) (by assumption) ?_
  · intro w hSw
    go_simp
  try simp only [Act.put, List.setIfInBounds_toArray, List.set_cons_zero, List.set_cons_succ]
  refine wpAnyH_take (i := 1) (oi := { dst := some 6, op := Op.move (Operand.tmp 1), type := 100, pos := "read.go:113", after := #[{ on := 12, ground := Ground.gcOnly Departure.lateStores }], guard := none }) (v := .pointer (some ⟨gk, 0, none⟩)) rfl (by kernel_rfl) (by kernel_rfl) (by kernel_rfl) (fun _ _ _ h => h) (Or.inl ⟨by rfl, ?_⟩) (by assumption) ?_
  · intro w hSw
    go_simp
  try simp only [Act.put, List.setIfInBounds_toArray, List.set_cons_zero, List.set_cons_succ]
  refine wpAnyH_take (i := 2) (oi := { dst := some 7, op := Op.fieldAddr 135 (Operand.tmp 2) 2, type := 0, pos := "read.go:113", after := #[], guard := none }) (v := .pointer (some ⟨gb, 2, none⟩)) rfl (by kernel_rfl) (by kernel_rfl) (by kernel_rfl) (fun _ _ _ h => h) (Or.inl ⟨by rfl, ?_⟩) (by assumption) ?_
  · intro w hSw
    go_simp
  try simp only [Act.put, List.setIfInBounds_toArray, List.set_cons_zero, List.set_cons_succ]
  refine wpAnyH_take (i := 3) (oi := { dst := some 8, op := Op.load 22 (Operand.tmp 7), type := 22, pos := "read.go:113", after := #[{ on := 2, ground := Ground.data }], guard := none }) (v := .slice (some ⟨b, off, none⟩) 4 4) rfl (by kernel_rfl) (by kernel_rfl) (by kernel_rfl) (fun _ _ _ h => h) (Or.inl ⟨by rfl, ?_⟩) (by assumption) ?_
  · intro w hSw
    have y2 : w.cell? ⟨gb, 2, none⟩ = some (.slice (some ⟨b, off, none⟩) 4 4) := by rw [hSw.box.cell 2 (by decide), HX.out]; rfl
    go_simp
  try simp only [Act.put, List.setIfInBounds_toArray, List.set_cons_zero, List.set_cons_succ]
  refine wpAnyH_take (i := 4) (oi := { dst := some 9, op := Op.slice 22 (Operand.tmp 8) none (some (Operand.const (Value.int IntKind.i64 2))) none, type := 22, pos := "read.go:113", after := #[{ on := 3, ground := Ground.data }], guard := none }) (v := .slice (some ⟨b, off, none⟩) 2 4) rfl (by kernel_rfl) (by kernel_rfl) (by kernel_rfl) (fun _ _ _ h => h) (Or.inl ⟨by rfl, ?_⟩) (by assumption) ?_
  · intro w hSw
    go_simp
  try simp only [Act.put, List.setIfInBounds_toArray, List.set_cons_zero, List.set_cons_succ]
  refine wpAnyH_take (i := 6) (oi := { dst := some 11, op := Op.fieldAddr 135 (Operand.tmp 2) 2, type := 0, pos := "read.go:113", after := #[], guard := none }) (v := .pointer (some ⟨gb, 2, none⟩)) rfl (by kernel_rfl) (by kernel_rfl) (by kernel_rfl) (fun _ _ _ h => h) (Or.inl ⟨by rfl, ?_⟩) (by assumption) ?_
  · intro w hSw
    go_simp
  try simp only [Act.put, List.setIfInBounds_toArray, List.set_cons_zero, List.set_cons_succ]
  refine wpAnyH_take (i := 7) (oi := { dst := some 12, op := Op.load 22 (Operand.tmp 11), type := 22, pos := "read.go:113", after := #[{ on := 6, ground := Ground.data }], guard := none }) (v := .slice (some ⟨b, off, none⟩) 4 4) rfl (by kernel_rfl) (by kernel_rfl) (by kernel_rfl) (fun _ _ _ h => h) (Or.inl ⟨by rfl, ?_⟩) (by assumption) ?_
  · intro w hSw
    have y2 : w.cell? ⟨gb, 2, none⟩ = some (.slice (some ⟨b, off, none⟩) 4 4) := by rw [hSw.box.cell 2 (by decide), HX.out]; rfl
    go_simp
  try simp only [Act.put, List.setIfInBounds_toArray, List.set_cons_zero, List.set_cons_succ]
  refine wpAnyH_take (i := 8) (oi := { dst := some 13, op := Op.slice 22 (Operand.tmp 12) (some (Operand.const (Value.int IntKind.i64 2))) none none, type := 22, pos := "read.go:113", after := #[{ on := 7, ground := Ground.data }], guard := none }) (v := .slice (some ⟨b, off + 2, none⟩) 2 2) rfl (by kernel_rfl) (by kernel_rfl) (by kernel_rfl) (fun _ _ _ h => h) (Or.inl ⟨by rfl, ?_⟩) (by assumption) ?_
  · intro w hSw
    go_simp
  try simp only [Act.put, List.setIfInBounds_toArray, List.set_cons_zero, List.set_cons_succ]
  refine wpAnyH_ready (rs := [5]) (by kernel_rfl) (by simp) ?_
  refine AllReadyH.cons (o := { dst := some 10, op := Op.call { callee := Callee.value (Operand.func 77), args := #[Operand.tmp 9], argTypes := #[22] }, type := 3, pos := "read.go:113", after := #[{ on := 4, ground := Ground.data }], guard := none }) rfl ?_ ?_
  rotate_left
  · exact AllReadyH.nil
  intro K hK
  go_simp
  go_at_call 77
  refine (HN1.out _ hHeld.byt).mono ?_
  rintro e w5 ⟨rfl, rfl⟩
  refine hK.out _ _ hHeld (fun hHeld => ?_)
  clear hK K
  try simp only [Act.put, List.setIfInBounds_toArray, List.set_cons_zero, List.set_cons_succ]
  refine wpAnyH_ready (rs := [9]) (by kernel_rfl) (by simp) ?_
  refine AllReadyH.cons (o := { dst := some 14, op := Op.call { callee := Callee.value (Operand.func 77), args := #[Operand.tmp 13], argTypes := #[22] }, type := 3, pos := "read.go:113", after := #[{ on := 8, ground := Ground.data }, { on := 5, ground := Ground.chain }], guard := none }) rfl ?_ ?_
  rotate_left
  · exact AllReadyH.nil
  intro K hK
  go_simp
  go_at_call 77
  refine (HN2.out _ hHeld.byt).mono ?_
  rintro e w9 ⟨rfl, rfl⟩
  refine hK.out _ _ hHeld (fun hHeld => ?_)
  clear hK K
  try simp only [Act.put, List.setIfInBounds_toArray, List.set_cons_zero, List.set_cons_succ]
  refine wpAnyH_take (i := 10) (oi := { dst := some 15, op := Op.nilCheck (Operand.tmp 5), type := 0, pos := "read.go:113", after := #[{ on := 0, ground := Ground.data }, { on := 0, ground := Ground.phase }, { on := 1, ground := Ground.textOnly Departure.lateStores }, { on := 2, ground := Ground.phase }, { on := 3, ground := Ground.phase }, { on := 4, ground := Ground.phase }, { on := 5, ground := Ground.phase }, { on := 6, ground := Ground.textOnly Departure.lateStores }, { on := 7, ground := Ground.textOnly Departure.lateStores }, { on := 8, ground := Ground.textOnly Departure.lateStoresUnsure }, { on := 9, ground := Ground.phase }], guard := none }) (v := .pointer (some ⟨gk, 0, none⟩)) rfl (by kernel_rfl) (by kernel_rfl) (by kernel_rfl) (fun _ _ _ h => h) (Or.inl ⟨by rfl, ?_⟩) (by assumption) ?_
  · intro w hSw
    go_simp
  try simp only [Act.put, List.setIfInBounds_toArray, List.set_cons_zero, List.set_cons_succ]
  refine wpAnyH_take (i := 11) (oi := { dst := some 16, op := Op.fieldAddr 25 (Operand.tmp 15) 0, type := 0, pos := "read.go:113", after := #[{ on := 10, ground := Ground.data }, { on := 0, ground := Ground.phase }, { on := 1, ground := Ground.textOnly Departure.lateStores }, { on := 2, ground := Ground.phase }, { on := 3, ground := Ground.phase }, { on := 4, ground := Ground.phase }, { on := 5, ground := Ground.phase }, { on := 6, ground := Ground.textOnly Departure.lateStores }, { on := 7, ground := Ground.textOnly Departure.lateStores }, { on := 8, ground := Ground.textOnly Departure.lateStoresUnsure }, { on := 9, ground := Ground.phase }], guard := none }) (v := .pointer (some ⟨gk, 0, none⟩)) rfl (by kernel_rfl) (by kernel_rfl) (by kernel_rfl) (fun _ _ _ h => h) (Or.inl ⟨by rfl, ?_⟩) (by assumption) ?_
  · intro w hSw
    go_simp
  try simp only [Act.put, List.setIfInBounds_toArray, List.set_cons_zero, List.set_cons_succ]
  obtain ⟨WA, hWA⟩ : ∃ u, u = w2.drew := ⟨_, rfl⟩
  have HFA := Lib.hid (show FB WA gk 25 5 (pkF k.lo k.hi vd vt vc) by rw [hWA]; exact HP.out)
  rw [← hWA] at hHeld ⊢
  clear hWA HS
  refine wpAnyH_ready (rs := [12]) (by kernel_rfl) (by simp) ?_
  refine AllReadyH.cons (o := { dst := none, op := Op.store 3 (Operand.tmp 16) (Operand.tmp 10), type := 0, pos := "read.go:113", after := #[{ on := 11, ground := Ground.data }, { on := 5, ground := Ground.data }, { on := 9, ground := Ground.chain }, { on := 0, ground := Ground.phase }, { on := 1, ground := Ground.textOnly Departure.lateStores }, { on := 2, ground := Ground.phase }, { on := 3, ground := Ground.phase }, { on := 4, ground := Ground.phase }, { on := 5, ground := Ground.phase }, { on := 6, ground := Ground.textOnly Departure.lateStores }, { on := 7, ground := Ground.textOnly Departure.lateStores }, { on := 8, ground := Ground.textOnly Departure.lateStoresUnsure }, { on := 9, ground := Ground.phase }], guard := none }) rfl ?_ ?_
  rotate_left
  · exact AllReadyH.nil
  intro K hK
  have q0 : _ = some (pkF k.lo k.hi vd vt vc 0) := HFA.out.cell 0 (by decide)
  have f0 := HFA.out.frozen 0
  go_simp
  obtain ⟨wB, hwB⟩ : ∃ u, u = World.setCell WA ⟨gk, 0, none⟩ (.int .i64 lo) := ⟨_, rfl⟩
  have hFB : FB wB gk 25 5 (upd (pkF k.lo k.hi vd vt vc) 0 (.int .i64 lo)) := by rw [hwB]; exact HFA.out.set_ 0 _
  have HSB := Lib.hid (hHeld.at_pk (show Touch gk WA wB by rw [hwB]; exact Touch.set_ _ _ _) hFB)
  have HFB := Lib.hid hFB
  rw [← hwB]
  clear hwB hFB q0 f0 hHeld HFA
  refine hK.out _ _ HSB.out (fun hHeld => ?_)
  clear hK K
  try simp only [Act.put, List.setIfInBounds_toArray, List.set_cons_zero, List.set_cons_succ]
  refine wpAnyH_take (i := 13) (oi := { dst := some 17, op := Op.nilCheck (Operand.tmp 6), type := 0, pos := "read.go:113", after := #[{ on := 1, ground := Ground.data }, { on := 0, ground := Ground.phase }, { on := 1, ground := Ground.phase }, { on := 2, ground := Ground.phase }, { on := 3, ground := Ground.phase }, { on := 4, ground := Ground.phase }, { on := 5, ground := Ground.phase }, { on := 6, ground := Ground.phase }, { on := 7, ground := Ground.phase }, { on := 8, ground := Ground.phase }, { on := 9, ground := Ground.phase }, { on := 10, ground := Ground.phase }, { on := 11, ground := Ground.phase }, { on := 12, ground := Ground.phase }], guard := none }) (v := .pointer (some ⟨gk, 0, none⟩)) rfl (by kernel_rfl) (by kernel_rfl) (by kernel_rfl) (fun _ _ _ h => h) (Or.inl ⟨by rfl, ?_⟩) (by assumption) ?_
  · intro w hSw
    go_simp
  try simp only [Act.put, List.setIfInBounds_toArray, List.set_cons_zero, List.set_cons_succ]
  refine wpAnyH_take (i := 14) (oi := { dst := some 18, op := Op.fieldAddr 25 (Operand.tmp 17) 1, type := 0, pos := "read.go:113", after := #[{ on := 13, ground := Ground.data }, { on := 0, ground := Ground.phase }, { on := 1, ground := Ground.phase }, { on := 2, ground := Ground.phase }, { on := 3, ground := Ground.phase }, { on := 4, ground := Ground.phase }, { on := 5, ground := Ground.phase }, { on := 6, ground := Ground.phase }, { on := 7, ground := Ground.phase }, { on := 8, ground := Ground.phase }, { on := 9, ground := Ground.phase }, { on := 10, ground := Ground.phase }, { on := 11, ground := Ground.phase }, { on := 12, ground := Ground.phase }], guard := none }) (v := .pointer (some ⟨gk, 1, none⟩)) rfl (by kernel_rfl) (by kernel_rfl) (by kernel_rfl) (fun _ _ _ h => h) (Or.inl ⟨by rfl, ?_⟩) (by assumption) ?_
  · intro w hSw
    go_simp
  try simp only [Act.put, List.setIfInBounds_toArray, List.set_cons_zero, List.set_cons_succ]
  obtain ⟨WB, hWB⟩ : ∃ u, u = wB := ⟨_, rfl⟩
  rw [← hWB] at HFB hHeld ⊢
  clear hWB HSB
  refine wpAnyH_ready (rs := [15]) (by kernel_rfl) (by simp) ?_
  refine AllReadyH.cons (o := { dst := none, op := Op.store 3 (Operand.tmp 18) (Operand.tmp 14), type := 0, pos := "read.go:113", after := #[{ on := 14, ground := Ground.data }, { on := 9, ground := Ground.data }, { on := 12, ground := Ground.chain }, { on := 0, ground := Ground.phase }, { on := 1, ground := Ground.phase }, { on := 2, ground := Ground.phase }, { on := 3, ground := Ground.phase }, { on := 4, ground := Ground.phase }, { on := 5, ground := Ground.phase }, { on := 6, ground := Ground.phase }, { on := 7, ground := Ground.phase }, { on := 8, ground := Ground.phase }, { on := 9, ground := Ground.phase }, { on := 10, ground := Ground.phase }, { on := 11, ground := Ground.phase }, { on := 12, ground := Ground.phase }], guard := none }) rfl ?_ ?_
  rotate_left
  · exact AllReadyH.nil
  intro K hK
  have q0 : _ = some (upd (pkF k.lo k.hi vd vt vc) 0 (.int .i64 lo) 1) := HFB.out.cell 1 (by decide)
  have f0 := HFB.out.frozen 1
  go_simp
  obtain ⟨wC, hwC⟩ : ∃ u, u = World.setCell WB ⟨gk, 1, none⟩ (.int .i64 hi) := ⟨_, rfl⟩
  have hFC : FB wC gk 25 5 (upd (upd (pkF k.lo k.hi vd vt vc) 0 (.int .i64 lo)) 1 (.int .i64 hi)) := by rw [hwC]; exact HFB.out.set_ 1 _
  have HSC := Lib.hid (hHeld.at_pk (show Touch gk WB wC by rw [hwC]; exact Touch.set_ _ _ _) hFC)
  have HFC := Lib.hid hFC
  rw [← hwC]
  clear hwC hFC q0 f0 hHeld HFB
  refine hK.out _ _ HSC.out (fun hHeld => ?_)
  clear hK K
  try simp only [Act.put, List.setIfInBounds_toArray, List.set_cons_zero, List.set_cons_succ]
  clear hHeld
  refine wpAnyH_done (by kernel_rfl) ?_ _
  have HFD := Lib.hid (show FB wC gk 25 5 (pkF lo hi vd vt vc) from HFC.out.congr fun q hq => by
    rcases (show q = 0 ∨ q = 1 ∨ q = 2 ∨ q = 3 ∨ q = 4 by omega) with rfl | rfl | rfl | rfl | rfl <;> rfl)
  have y0 : wC.cell? ⟨gk, 0, none⟩ = some (.int .i64 lo) := HFD.out.cell 0 (by decide)
  have y1 : wC.cell? ⟨gk, 1, none⟩ = some (.int .i64 hi) := HFD.out.cell 1 (by decide)
  clear HFC
  have hne1 := HSC.out.ne
  by_cases hlt : hi < lo
  · have t1 : decide (hi < lo) = true := decide_eq_true hlt
    rw [if_pos hlt] at HI
    have HLT := Lib.hid hlt
    clear hlt
    go_upto_region 2 with fail
    go_quiet (fail)
    obtain ⟨wE, hwE⟩ : ∃ u, u = wC.drewN nq := ⟨_, rfl⟩
    have HFE := Lib.hid (show FB wE gk 25 5 (pkF lo hi vd vt vc) by rw [hwE]; exact HFD.out.drewN nq)
    have HSE := Lib.hid (show LenS w gk gb gf b off X L wE by rw [hwE]; exact HSC.out.drewN nq)
    rw [← hwE]
    clear hwE y0 y1 HFD HSC HN1 HN2
    have z1 : wE.cell? ⟨gb, 1, none⟩ = some (.int .i64 at_) := by rw [HSE.out.box.cell 1 (by decide), HX.out]; rfl
    go_wp2_with (refine wpList_store_all rfl 94 _ _ rfl gf 94 2 _ (ftF at_ 121) rfl rfl HSE.out.flt sizeFt (ftF_one _ _) ?_; intro w7 h7 hT7 hs7)
    refine bodyPost_ret (result_seg rfl _ _ gf _ 2 _ _ rfl h7 Tryd.underlying94 rfl sizeFt) rfl ⟨touch_then HSE.out.touch (hT7.below hne1.2.2.2.2.2 HSE.out.touch.size), ?_⟩
    rw [HR.out, HI.out]
    exact ⟨by rw [HAT.out], _, HFE.out.touch hT7 hne1.2.1⟩
  · have t1 : decide (hi < lo) = false := decide_eq_false hlt
    rw [if_neg hlt] at HI
    clear hlt
    go_upto_region 2 with fail
    go_quiet (fail)
    obtain ⟨wE, hwE⟩ : ∃ u, u = wC.drewN nq := ⟨_, rfl⟩
    have HFE := Lib.hid (show FB wE gk 25 5 (pkF lo hi vd vt vc) by rw [hwE]; exact HFD.out.drewN nq)
    have HSE := Lib.hid (show LenS w gk gb gf b off X L wE by rw [hwE]; exact HSC.out.drewN nq)
    rw [← hwE]
    clear hwE y0 y1 HFD HSC HN1 HN2
    go_wp2_with (refine wpList_store_all rfl 94 _ _ rfl gf 94 2 _ (ftF 0 0) rfl rfl HSE.out.flt sizeFt (ftF_one _ _) ?_; intro w7 h7 hT7 hs7)
    refine bodyPost_ret (result_seg rfl _ _ gf _ 2 _ _ rfl h7 Tryd.underlying94 rfl sizeFt) rfl ?_
    have hTT := touch_then HSE.out.touch (hT7.below hne1.2.2.2.2.2 HSE.out.touch.size)
    refine ⟨hTT, ?_⟩
    rw [HR.out, HI.out]
    exact ⟨rfl, vd, vt, vc, HFE.out.touch hT7 hne1.2.1, ownB_touch HK.out.data hTT HK.out.blk (by decide), ownT_touch HK.out.tabs hTT HK.out.blk (by decide), ownB_touch HK.out.code hTT HK.out.blk (by decide)⟩
end Go.Proofs.YtlodoinmippebaaDoor.Pak
/- Package pack: what a section says is put into a container: the tables. -/
namespace Go.Proofs.YtlodoinmippebaaDoor.Pak
open Go.ChangeShapes Go.WideShapes Go.ChangeAt Go.RowKit
set_option linter.unusedVariables false
set_option linter.unusedSimpArgs false
set_option maxRecDepth 100000
def rowT (G : Nat → Int × Int) (k : Nat) : Value := tabF (G (k / 2)) (k % 2)
theorem rowT_at (G : Nat → Int × Int) (j k : Nat) (hk : k < 2) : rowT G (j * 2 + k) = tabF (G j) k := by
  unfold rowT
  rw [show (j * 2 + k) / 2 = j by omega, show (j * 2 + k) % 2 = k by omega]
theorem rowT_upd (G : Nat → Int × Int) (i : Nat) (x : Int × Int) (N : Nat) : ∀ k, k < N → updR (rowT G) (i * 2) 2 (tabF x) k = rowT (fun q => if q = i then x else G q) k := fun k _ => by
  unfold updR rowT
  by_cases h : i * 2 ≤ k ∧ k < i * 2 + 2
  · have e : k / 2 = i := by omega
    simp only [if_pos h, if_pos e, show k - i * 2 = k % 2 by omega]
  · have e : ¬ (k / 2 = i) := by omega
    simp only [if_neg h, if_neg e]
theorem infoT : (Tryd.prog.info? 69).map (fun i => (i.zero.map Value.cells, i.size, i.bytes)) = some (some (arr 2 (tabF (0, 0))), 2, 16) := by kernel_rfl
structure TabS (w : World) (gk gb gf gt b off q : Nat) (X F : Nat → Value) (L : List Int) (G : Nat → Int × Int) (W : World) : Prop where
  pk : FB W gk 25 5 F
  box : FB W gb 135 3 X
  byt : BytesAt W (some ⟨b, off, none⟩) L
  flt : FB W gf 94 2 (ftF 0 0)
  row : FB W gt 69 (q * 2) (rowT G)
  touch : Touch gk w W
  ne : gk ≠ gb ∧ gk ≠ gf ∧ gk ≠ gt ∧ gb ≠ gt ∧ gf ≠ gt ∧ gb ≠ gf ∧ b ≠ gk ∧ b ≠ gt ∧ w.heap.size ≤ gb ∧ w.heap.size ≤ gf ∧ w.heap.size ≤ gt
theorem TabS.drewN {w : World} {gk gb gf gt b off q : Nat} {X F : Nat → Value} {L : List Int} {G : Nat → Int × Int} {W : World} (h : TabS w gk gb gf gt b off q X F L G W) (m : Nat) : TabS w gk gb gf gt b off q X F L G (W.drewN m) :=
  ⟨h.pk.drewN m, h.box.drewN m, h.byt, h.flt.drewN m, h.row.drewN m, h.touch.trans (Touch.drewN W m), h.ne⟩
theorem TabS.up {w : World} {gk gb gf gt b off q : Nat} {X F : Nat → Value} {L : List Int} {G : Nat → Int × Int} {W W' : World} (h : TabS w gk gb gf gt b off q X F L G W) (hb : Below W.heap.size W W') : TabS w gk gb gf gt b off q X F L G W' :=
  ⟨h.pk.up hb, h.box.up hb, h.byt.below hb, h.flt.up hb, h.row.up hb, h.touch.trans (Touch.of_below hb), h.ne⟩
theorem TabS.at_row {w : World} {gk gb gf gt b off q : Nat} {X F : Nat → Value} {L : List Int} {G G' : Nat → Int × Int} {W W' : World} (h : TabS w gk gb gf gt b off q X F L G W) (ht : Touch gt W W') (hr : FB W' gt 69 (q * 2) (rowT G')) : TabS w gk gb gf gt b off q X F L G' W' := by
  obtain ⟨n1, n2, n3, n4, n5, n6, n7, n8, n9, n10, n11⟩ := h.ne
  exact ⟨h.pk.touch ht n3, h.box.touch ht n4, bytes_touch h.byt ht n8, h.flt.touch ht n5, hr, touch_then h.touch (ht.below n11 h.touch.size), h.ne⟩
section
variable {P : Program} {ops : Array Oper} {w : World}
theorem wpStill_load_cells {Q : Act → Prop} {a : Act} {o : Oper} {rest : List Oper} (hgd : Region.wanted o (yielded ops a.tmps) = true) (ty : TypeId) (x : Operand) (ho : o.op = .load ty x)
    (g off : Nat) (hx : a.eval x = .pointer (some ⟨g, off, none⟩)) (n : Nat) (f : Nat → Value) (d : TypeDesc) (hg : ∀ k, k < n → w.cell? ⟨g, off + k, none⟩ = some (f k))
    (hu : P.underlying ty = some d) (hd : (match d with | .struct _ | .array _ _ => true | _ => false) = true) (hi : (P.info? ty).map (·.size) = some n)
    (h : wpStill P ops w Q rest (a.put o.dst (.agg (arr n f)))) : wpStill P ops w Q (o :: rest) a :=
  wpStill_step fun K hK => by
    rw [if_pos hgd]
    unfold Oper.still execOp
    simp only [ho, hx, Instr.loadAt, Instr.sureAddr, Sem.run_bind, Sem.run_pure, Result.andThen_ok, run_loadVar_cells w g off ty n f d hg hu hd hi, Oper.stillUpon_value]
    exact hK _ h
end
set_option maxHeartbeats 8000000 in
theorem tablesM_any (w : World) (gk base n b off left q : Nat) (k : Pk) (vd vt vc : Value) (kd at_ : Int) (L : List Int) (hk : PkB w gk base k vd vt vc) (hL : L.length = 2 * q) (hq : q ≤ 1048576) (hY : Bytes L) (hA : BytesAt w (some ⟨b, off, none⟩) L) (hne : b ≠ gk) (hlt : b < w.heap.size) (hat : at_ = (n - left : Nat)) (hleft : 2 * q ≤ left ∧ left ≤ n) (hn : n ≤ 1048576) (hbase : base ≤ w.heap.size) :
    Calls Tryd.prog 110 #[.agg (arr 3 (secF ⟨kd, at_, some ⟨b, off, none⟩, 2 * q, 2 * q, L⟩)), .pointer (some ⟨gk, 0, none⟩)] w fun e w' => Touch gk w w' ∧ IntoRes n gk base (into k 2 L left) e w' := by
  obtain ⟨q2, hq2⟩ : ∃ q2, q2 = 2 * q := ⟨_, rfl⟩
  rw [← hq2]
  obtain ⟨X, hX⟩ : ∃ X, X = secF ⟨kd, at_, some ⟨b, off, none⟩, q2, q2, L⟩ := ⟨_, rfl⟩
  rw [← hX]
  have HX := Lib.hid hX
  have HK := Lib.hid hk
  have HL := Lib.hid hL
  have HY := Lib.hid hY
  have HA := Lib.hid hA
  have HAT := Lib.hid hat
  have HLF := Lib.hid hleft
  have HQ2 := Lib.hid hq2
  have HBS := Lib.hid hbase
  clear hX hk hL hY hA hat hleft hbase
  obtain ⟨r, hr⟩ : ∃ r, r = into k 2 L left := ⟨_, rfl⟩
  rw [← hr]
  have HR := Lib.hid hr
  have HI := Lib.hid (show into k 2 L left = (match tabsR [] left L with
    | .ok t => .ok { k with tabs := t }
    | .error e => .error e) by unfold into; rw [if_neg (by decide), if_pos rfl]; rfl)
  clear hr
  obtain ⟨F0, hF0⟩ : ∃ F, F = pkF k.lo k.hi vd vt vc := ⟨_, rfl⟩
  have HF0 := Lib.hid hF0
  clear hF0
  go_enter Tryd.func110, Tryd.ntmps110
  go_upto_region 1 with (first
    | (refine wpList_box_seg rfl _ (.tmp 0) rfl 3 X rfl ?_; intro w1 h1 hB1 hs1)
    | (refine wpList_alloc_seg rfl 94 rfl 2 (ftF 0 0) zeroFt ?_; intro w2 h2 hB2 hs2))
  obtain ⟨gb, hgb⟩ : ∃ gb, gb = w.heap.size := ⟨_, rfl⟩
  obtain ⟨gf, hgf⟩ : ∃ gf, gf = w1.heap.size := ⟨_, rfl⟩
  rw [← hgb] at h1 ⊢
  rw [← hgf] at h2 ⊢
  have hb2 : Below w.heap.size w w2 := hB1.trans (hB2.mono hB1.size)
  have HB2 := Lib.hid hb2
  have HP2 := Lib.hid (show FB w2 gk 25 5 F0 by rw [HF0.out]; exact HK.out.blk.up hb2)
  have HBX := Lib.hid (h1.up hB2)
  have HFT := Lib.hid h2
  have hkl := HK.out.blk.lt
  have hg1 : gb < gf := by omega
  have hg2 : gf < w2.heap.size := by omega
  have hgb0 : w.heap.size ≤ gb := by omega
  have x2 : w2.cell? ⟨gb, 2, none⟩ = some (.slice (some ⟨b, off, none⟩) q2 q2) := by rw [(h1.up hB2).cell 2 (by decide), HX.out]; rfl
  have hmk := run_make_seg (P := Tryd.prog) w2 23 69 2 16 (tabF (0, 0)) q Tryd.underlying23 infoT (by decide) (by omega) (by omega)
  have hb3 := below_box w2 (.cells (arr (q * 2) fun p => tabF (0, 0) (p % 2)) 69)
  have hf3 := FB.new w2 69 (q * 2) (fun p => tabF (0, 0) (p % 2))
  have hs3 : (w2.alloc (.cells (arr (q * 2) fun p => tabF (0, 0) (p % 2)) 69)).heap.size = w2.heap.size + 1 := by simp
  obtain ⟨w3, hw3⟩ : ∃ w3, w3 = w2.alloc (.cells (arr (q * 2) fun p => tabF (0, 0) (p % 2)) 69) := ⟨_, rfl⟩
  obtain ⟨gt, hgt⟩ : ∃ gt, gt = w2.heap.size := ⟨_, rfl⟩
  rw [← hw3, ← hgt] at hmk
  rw [← hw3] at hb3 hf3 hs3
  rw [← hgt] at hf3
  have HB3 := Lib.hid hb3
  have HF3 := Lib.hid hf3
  have y3 : w3.cell? ⟨gk, 3, none⟩ = some (F0 3) := (HP2.out.up hb3).cell 3 (by decide)
  have z3 : w3.frozen? ⟨gk, 3, none⟩ = false := (HP2.out.up hb3).frozen 3
  have HG3 := Lib.hid (show gt = w2.heap.size ∧ w3.heap.size = gt + 1 from ⟨hgt, by omega⟩)
  have hdiv : (q2 : Int) / 2 = q := by omega
  have hdiv2 : (q2 : Int).tdiv 2 = q := by rw [Int.tdiv_eq_ediv_of_nonneg (by omega)]; exact hdiv
  have HGL := Lib.hid (show gb < gf ∧ gf < gt ∧ w.heap.size ≤ gb ∧ gk < w.heap.size from ⟨hg1, by omega, hgb0, hkl⟩)
  clear h1 hB1 hs1 h2 hB2 hs2 hb3 hf3 hw3 hq2 hgb hgf hgt hs3 hg1 hg2 hgb0 hkl hb2
  go_upto_region 2 with fail
  obtain ⟨F1, hF1⟩ : ∃ F, F = upd F0 3 (.slice (some ⟨gt, 0, none⟩) q q) := ⟨_, rfl⟩
  obtain ⟨w4, hw4⟩ : ∃ u, u = w3.setCell ⟨gk, 3, none⟩ (.slice (some ⟨gt, 0, none⟩) q q) := ⟨_, rfl⟩
  have HS4 := Lib.hid (show TabS w gk gb gf gt b off q X F1 L (fun _ => (0, 0)) w4 by
    obtain ⟨g1, g2, g3, g4⟩ := HGL.out
    have ht : Touch gk w3 w4 := by rw [hw4]; exact Touch.set_ w3 3 _
    have hb : Below w.heap.size w w3 := HB2.out.trans (HB3.out.mono HB2.out.size)
    exact ⟨by rw [hw4, hF1]; exact (HP2.out.up HB3.out).set_ 3 _, (HBX.out.up HB3.out).touch ht (by omega), bytes_touch (HA.out.below hb) ht hne, (HFT.out.up HB3.out).touch ht (by omega), HF3.out.touch ht (by omega), (Touch.of_below hb).trans ht, ⟨by omega, by omega, by omega, by omega, by omega, by omega, hne, by omega, by omega, by omega, by omega⟩⟩)
  rw [← hw4]
  have HF1 := Lib.hid hF1
  have x4 : w4.cell? ⟨gk, 3, none⟩ = some (.slice (some ⟨gt, 0, none⟩) q q) := by rw [HS4.out.pk.cell 3 (by decide), hF1]; rfl
  clear hw4 hF1 HP2 HBX HFT HB2 HB3 HF3 x2 y3 z3 hmk hdiv hdiv2 HGL HG3 hne hlt HA
  go_wp2_with fail
  go_loopw [5, 6, 7, 21, 22, 23, 24, 25, 26, 27, 28, 29, 30, 31, 32, 33, 34, 35, 36, 37, 38, 39, 40, 41, 42, 43, 49, 50, 51, 52, 59, 60, 61, 62, 63, 64, 65, 66] (fun _ _ _ a21 _ _ _ _ _ _ _ _ _ _ _ _ _ _ _ _ _ _ _ _ _ _ _ _ _ _ _ _ _ _ _ _ _ _ wr => ∃ (j : Nat) (G : Nat → Int × Int), a21 = .int .i64 j ∧ j ≤ q ∧ Hid (tabsR ((List.range j).map G) (left - 2 * j) (L.drop (2 * j)) = tabsR [] left L) ∧ TabS w gk gb gf gt b off q X F1 L G wr) (fun _ _ _ a21 _ _ _ _ _ _ _ _ _ _ _ _ _ _ _ _ _ _ _ _ _ _ _ _ _ _ _ _ _ _ _ _ _ _ _ => (q - intOf a21).toNat)
  case atStart => exact ⟨0, fun _ => (0, 0), rfl, Nat.zero_le _, Lib.hid rfl, HS4.out⟩
  case round =>
    obtain ⟨j, G, rfl, hj, HE, hS⟩ := hrel
    have HS := Lib.hid hS
    clear hS HS4 x4
    by_cases hjq : j < q
    · have hjq' : (j : Int) < q := by omega
      obtain ⟨pj, hpj⟩ : ∃ pj : Nat, pj = 2 * j := ⟨_, rfl⟩
      have hpi : (j : Int) * 2 = pj := by omega
      have hp1 : (pj : Int) < q2 := by have := HQ2.out; omega
      have hp2 : (pj : Int) + 1 < q2 := by have := HQ2.out; omega
      obtain ⟨a, hxa, hd1⟩ := drop_cons (l := L) (j := pj) (by have := HL.out; have := HQ2.out; omega)
      obtain ⟨d, hxd, hd2⟩ := drop_cons (l := L) (j := pj + 1) (by have := HL.out; have := HQ2.out; omega)
      have haB := HY.out a (List.mem_of_getElem? hxa)
      have hdB := HY.out d (List.mem_of_getElem? hxd)
      rw [← hpj, hd1, hd2] at HE
      have HBA := Lib.hid (show ∀ W, BytesAt W (some ⟨b, off, none⟩) L → W.cell? ⟨b, off + pj, none⟩ = some (.int .u8 a) ∧ W.cell? ⟨b, off + (pj + 1), none⟩ = some (.int .u8 d) from fun W hW => by
        obtain ⟨b', off', e, h1, h2⟩ := hW (by have := HL.out; have := HQ2.out; omega)
        injection e with e; injection e with e1 e2
        subst e1 e2
        rw [h2 pj (by have := HL.out; have := HQ2.out; omega), h2 (pj + 1) (by have := HL.out; have := HQ2.out; omega), hxa, hxd]
        exact ⟨rfl, rfl⟩)
      obtain ⟨ha0, ha1⟩ := haB
      obtain ⟨hd0, hd1'⟩ := hdB
      have HPJ := Lib.hid hpj
      have HE2 := Lib.hid (show (if okN a = false then .error (left - pj, 122) else if okN d = false then .error (left - pj - 1, 122) else tabsR ((List.range j).map G ++ [(a, d)]) (left - pj - 2) (L.drop (pj + 1 + 1))) = tabsR [] left L from HE.out)
      clear hd1 hd2 hxa hxd hpj HE
      go_upto_region 6 with fail
      clear hpi
      have e1 : ((pj : Int) + 1).toNat = pj + 1 := by omega
      have e0 : (0 : Int) ≤ (pj : Int) + 1 := by omega
      have hbnd : (pj : Int) + 1 < 4611686018427387904 := by have := HQ2.out; omega
      have HSD := Lib.hid (HS.out.drewN 1)
      refine wp_region_held_drew (S := fun W => TabS w gk gb gf gt b off q X F1 L G W) (by kernel_rfl) (HS.out.drewN 1) (fun hHeld => ?_)

      refine wpAnyH_take (i := 0) (oi := { dst := some 26, op := Op.fieldAddr 135 (Operand.tmp 2) 2, type := 0, pos := "read.go:124", after := #[], guard := none }) (v := .pointer (some ⟨gb, 2, none⟩)) rfl (by kernel_rfl) (by kernel_rfl) (by kernel_rfl) (fun _ _ _ h => h) (Or.inl ⟨by rfl, ?_⟩) (by assumption) ?_
      · intro w hSw
        go_simp
      try simp only [Act.put, List.setIfInBounds_toArray, List.set_cons_zero, List.set_cons_succ]
      refine wpAnyH_take (i := 1) (oi := { dst := some 27, op := Op.load 22 (Operand.tmp 26), type := 22, pos := "read.go:124", after := #[{ on := 0, ground := Ground.data }], guard := none }) (v := .slice (some ⟨b, off, none⟩) q2 q2) rfl (by kernel_rfl) (by kernel_rfl) (by kernel_rfl) (fun _ _ _ h => h) (Or.inl ⟨by rfl, ?_⟩) (by assumption) ?_
      · intro w hSw
        have y2 : w.cell? ⟨gb, 2, none⟩ = some (.slice (some ⟨b, off, none⟩) q2 q2) := by rw [hSw.box.cell 2 (by decide), HX.out]; rfl
        go_simp
      try simp only [Act.put, List.setIfInBounds_toArray, List.set_cons_zero, List.set_cons_succ]
      refine wpAnyH_take (i := 2) (oi := { dst := some 28, op := Op.move (Operand.tmp 6), type := 3, pos := "read.go:124", after := #[], guard := none }) (v := .int .i64 pj) rfl (by kernel_rfl) (by kernel_rfl) (by kernel_rfl) (fun _ _ _ h => h) (Or.inl ⟨by rfl, ?_⟩) (by assumption) ?_
      · intro w hSw
        go_simp
      try simp only [Act.put, List.setIfInBounds_toArray, List.set_cons_zero, List.set_cons_succ]
      refine wpAnyH_take (i := 3) (oi := { dst := some 29, op := Op.indexAddr 22 (Operand.tmp 27) (Operand.tmp 28), type := 0, pos := "read.go:124", after := #[{ on := 1, ground := Ground.data }, { on := 2, ground := Ground.data }], guard := none }) (v := .pointer (some ⟨b, off + pj, none⟩)) rfl (by kernel_rfl) (by kernel_rfl) (by kernel_rfl) (fun _ _ _ h => h) (Or.inl ⟨by rfl, ?_⟩) (by assumption) ?_
      · intro w hSw
        go_simp
      try simp only [Act.put, List.setIfInBounds_toArray, List.set_cons_zero, List.set_cons_succ]
      refine wpAnyH_take (i := 4) (oi := { dst := some 30, op := Op.load 5 (Operand.tmp 29), type := 5, pos := "read.go:124", after := #[{ on := 3, ground := Ground.data }], guard := none }) (v := .int .u8 a) rfl (by kernel_rfl) (by kernel_rfl) (by kernel_rfl) (fun _ _ _ h => h) (Or.inl ⟨by rfl, ?_⟩) (by assumption) ?_
      · intro w hSw
        have y2 := (HBA.out w hSw.byt).1
        go_simp
      try simp only [Act.put, List.setIfInBounds_toArray, List.set_cons_zero, List.set_cons_succ]
      refine wpAnyH_take (i := 5) (oi := { dst := some 31, op := Op.convert 5 3 (Operand.tmp 30), type := 3, pos := "read.go:124", after := #[{ on := 4, ground := Ground.data }], guard := none }) (v := .int .i64 a) rfl (by kernel_rfl) (by kernel_rfl) (by kernel_rfl) (fun _ _ _ h => h) (Or.inl ⟨by rfl, ?_⟩) (by assumption) ?_
      · intro w hSw
        go_simp
        exact IntWalk.i64_in _ (by omega)
      try simp only [Act.put, List.setIfInBounds_toArray, List.set_cons_zero, List.set_cons_succ]
      refine wpAnyH_take (i := 6) (oi := { dst := some 32, op := Op.fieldAddr 135 (Operand.tmp 2) 2, type := 0, pos := "read.go:124", after := #[], guard := none }) (v := .pointer (some ⟨gb, 2, none⟩)) rfl (by kernel_rfl) (by kernel_rfl) (by kernel_rfl) (fun _ _ _ h => h) (Or.inl ⟨by rfl, ?_⟩) (by assumption) ?_
      · intro w hSw
        go_simp
      try simp only [Act.put, List.setIfInBounds_toArray, List.set_cons_zero, List.set_cons_succ]
      refine wpAnyH_take (i := 7) (oi := { dst := some 33, op := Op.load 22 (Operand.tmp 32), type := 22, pos := "read.go:124", after := #[{ on := 6, ground := Ground.data }], guard := none }) (v := .slice (some ⟨b, off, none⟩) q2 q2) rfl (by kernel_rfl) (by kernel_rfl) (by kernel_rfl) (fun _ _ _ h => h) (Or.inl ⟨by rfl, ?_⟩) (by assumption) ?_
      · intro w hSw
        have y2 : w.cell? ⟨gb, 2, none⟩ = some (.slice (some ⟨b, off, none⟩) q2 q2) := by rw [hSw.box.cell 2 (by decide), HX.out]; rfl
        go_simp
      try simp only [Act.put, List.setIfInBounds_toArray, List.set_cons_zero, List.set_cons_succ]
      refine wpAnyH_take (i := 8) (oi := { dst := some 34, op := Op.move (Operand.tmp 6), type := 3, pos := "read.go:124", after := #[], guard := none }) (v := .int .i64 pj) rfl (by kernel_rfl) (by kernel_rfl) (by kernel_rfl) (fun _ _ _ h => h) (Or.inl ⟨by rfl, ?_⟩) (by assumption) ?_
      · intro w hSw
        go_simp
      try simp only [Act.put, List.setIfInBounds_toArray, List.set_cons_zero, List.set_cons_succ]
      refine wpAnyH_take (i := 9) (oi := { dst := some 35, op := Op.binOp BinOp.add 3 (Operand.tmp 34) (Operand.const (Value.int IntKind.i64 1)) 3, type := 3, pos := "read.go:124", after := #[{ on := 8, ground := Ground.data }], guard := none }) (v := .int .i64 ((pj : Int) + 1)) rfl (by kernel_rfl) (by kernel_rfl) (by kernel_rfl) (fun _ _ _ h => h) (Or.inl ⟨by rfl, ?_⟩) (by assumption) ?_
      · intro w hSw
        go_simp
        exact IntWalk.i64_in _ (by omega)
      try simp only [Act.put, List.setIfInBounds_toArray, List.set_cons_zero, List.set_cons_succ]
      refine wpAnyH_take (i := 10) (oi := { dst := some 36, op := Op.indexAddr 22 (Operand.tmp 33) (Operand.tmp 35), type := 0, pos := "read.go:124", after := #[{ on := 7, ground := Ground.data }, { on := 9, ground := Ground.data }], guard := none }) (v := .pointer (some ⟨b, off + (pj + 1), none⟩)) rfl (by kernel_rfl) (by kernel_rfl) (by kernel_rfl) (fun _ _ _ h => h) (Or.inl ⟨by rfl, ?_⟩) (by assumption) ?_
      · intro w hSw
        go_simp
      try simp only [Act.put, List.setIfInBounds_toArray, List.set_cons_zero, List.set_cons_succ]
      refine wpAnyH_take (i := 11) (oi := { dst := some 37, op := Op.load 5 (Operand.tmp 36), type := 5, pos := "read.go:124", after := #[{ on := 10, ground := Ground.data }], guard := none }) (v := .int .u8 d) rfl (by kernel_rfl) (by kernel_rfl) (by kernel_rfl) (fun _ _ _ h => h) (Or.inl ⟨by rfl, ?_⟩) (by assumption) ?_
      · intro w hSw
        have y2 := (HBA.out w hSw.byt).2
        go_simp
      try simp only [Act.put, List.setIfInBounds_toArray, List.set_cons_zero, List.set_cons_succ]
      refine wpAnyH_take (i := 12) (oi := { dst := some 38, op := Op.convert 5 3 (Operand.tmp 37), type := 3, pos := "read.go:124", after := #[{ on := 11, ground := Ground.data }], guard := none }) (v := .int .i64 d) rfl (by kernel_rfl) (by kernel_rfl) (by kernel_rfl) (fun _ _ _ h => h) (Or.inl ⟨by rfl, ?_⟩) (by assumption) ?_
      · intro w hSw
        go_simp
        exact IntWalk.i64_in _ (by omega)
      try simp only [Act.put, List.setIfInBounds_toArray, List.set_cons_zero, List.set_cons_succ]
      refine wpAnyH_take (i := 13) (oi := { dst := some 39, op := Op.build 69 #[(0, Operand.tmp 31), (1, Operand.tmp 38)], type := 69, pos := "read.go:124", after := #[{ on := 5, ground := Ground.data }, { on := 12, ground := Ground.data }], guard := none }) (v := .agg #[.int .i64 a, .int .i64 d]) rfl (by kernel_rfl) (by kernel_rfl) (by kernel_rfl) (fun _ _ _ h => h) (Or.inl ⟨by rfl, ?_⟩) (by assumption) ?_
      · intro w hSw
        go_simp
      try simp only [Act.put, List.setIfInBounds_toArray, List.set_cons_zero, List.set_cons_succ]
      refine wpAnyH_ready (rs := [14]) (by kernel_rfl) (by simp) ?_
      refine AllReadyH.cons (o := { dst := some 7, op := Op.alloc 69, type := 0, pos := "read.go:124", after := #[], guard := none }) rfl ?_ ?_
      rotate_left
      · exact AllReadyH.nil
      intro K hK
      refine step_alloc_seg (by rfl) 69 rfl 2 (tabF (0, 0)) zeroTab ?_
      intro w14 h14 hB14 hs14
      have HS14 := Lib.hid (hHeld.up hB14)
      have H14 := Lib.hid h14
      have HB14 := Lib.hid hB14
      have HSZ := Lib.hid (show wr.heap.size < w14.heap.size by rw [hs14]; exact Nat.lt_succ_self _)
      clear h14 hB14 hs14 hHeld
      refine hK.out _ _ HS14.out (fun hHeld => ?_)
      clear hK K
      try simp only [Act.put, List.setIfInBounds_toArray, List.set_cons_zero, List.set_cons_succ]
      clear hHeld
      refine wpAnyH_ready (rs := [15]) (by kernel_rfl) (by simp) ?_
      refine AllReadyH.cons (o := { dst := none, op := Op.store 69 (Operand.tmp 7) (Operand.tmp 39), type := 0, pos := "read.go:124", after := #[{ on := 14, ground := Ground.data }, { on := 13, ground := Ground.data }, { on := 0, ground := Ground.phase }, { on := 1, ground := Ground.phase }, { on := 2, ground := Ground.phase }, { on := 3, ground := Ground.phase }, { on := 4, ground := Ground.phase }, { on := 5, ground := Ground.phase }, { on := 6, ground := Ground.phase }, { on := 7, ground := Ground.phase }, { on := 8, ground := Ground.phase }, { on := 9, ground := Ground.phase }, { on := 10, ground := Ground.phase }, { on := 11, ground := Ground.phase }, { on := 12, ground := Ground.phase }, { on := 13, ground := Ground.phase }, { on := 14, ground := Ground.phase }], guard := none }) rfl ?_ ?_
      rotate_left
      · exact AllReadyH.nil
      intro K hK
      refine step_store_seg (by rfl) 69 _ _ rfl wr.drew.heap.size 0 69 2 2 _ (tabF (a, d)) rfl rfl H14.out (by omega) sizeTab (tabF_one _) ?_
      intro w15 h15 hT15 hs15
      have hbw : Below wr.drew.heap.size wr.drew w15 := HB14.out.trans (hT15.below (Nat.le_refl _) HB14.out.size)
      have HS15 := Lib.hid (HSD.out.up hbw)
      have H15 := Lib.hid (show FB w15 wr.drew.heap.size 69 2 (tabF (a, d)) from h15.congr fun p hp => by unfold updR; rw [if_pos (by omega), Nat.sub_zero])
      clear h15 hT15 hs15 hbw HS14 H14 HB14
      refine hK.out _ _ HS15.out (fun hHeld => ?_)
      clear hK K
      try simp only [Act.put, List.setIfInBounds_toArray, List.set_cons_zero, List.set_cons_succ]
      clear hHeld
      refine wpAnyH_done (by kernel_rfl) ?_ _
      obtain ⟨gv, hgv⟩ : ∃ gv, gv = wr.drew.heap.size := ⟨_, rfl⟩
      have hgv2 : gv = wr.heap.size := hgv
      have HGV := Lib.hid (show w.heap.size ≤ gv ∧ gt ≠ gv from ⟨by rw [hgv2]; exact HS.out.touch.size, by have := HS.out.row.lt; omega⟩)
      rw [← hgv] at H15 ⊢
      clear hgv hgv2 HSD HS HSZ e1 e0 hbnd
      have x0 : w15.cell? ⟨gv, 0, none⟩ = some (.int .i64 a) := H15.out.cell 0 (by decide)
      have x1 : w15.cell? ⟨gv, 1, none⟩ = some (.int .i64 d) := H15.out.cell 1 (by decide)
      have x9 : w15.cell? ⟨gb, 1, none⟩ = some (.int .i64 at_) := by rw [HS15.out.box.cell 1 (by decide), HX.out]; rfl
      have hne1 := HS15.out.ne
      have HRW := Lib.hid (rows_any a)
      have HWD := Lib.hid (wide_any d)
      cases ha : okN a
      · rw [ha] at HRW HE2
        have HE3 := Lib.hid (show tabsR [] left L = .error (left - pj, 122) from HE2.out.symm)
        have HATP := Lib.hid (show at_ + pj = ((n - (left - pj) : Nat) : Int) by rw [HAT.out]; have := HLF.out; have := HPJ.out; omega)
        obtain ⟨hs0, hs1⟩ : 0 ≤ at_ ∧ at_ ≤ 1048576 := by rw [HAT.out]; omega
        have hq2b : (pj : Int) ≤ 2097152 := by have := HQ2.out; omega
        clear ha HWD
        go_wp2_with (first
          | (go_at_call 89; refine (HRW.out w15).mono ?_; rintro e u ⟨rfl, rfl⟩)
          | (refine wpList_store_all rfl 94 _ _ rfl gf 94 2 _ (ftF (at_ + pj) 122) rfl rfl HS15.out.flt sizeFt (ftF_one _ _) ?_; intro w7 h7 hT7 hs7))
        refine bodyPost_ret (result_seg rfl _ _ gf _ 2 _ _ rfl h7 Tryd.underlying94 rfl sizeFt) rfl ?_
        refine ⟨touch_then HS15.out.touch (hT7.below hne1.2.2.2.2.2.2.2.2.2.1 HS15.out.touch.size), ?_⟩
        rw [HR.out, HI.out, HE3.out]
        exact ⟨by rw [HATP.out], _, HS15.out.pk.touch hT7 hne1.2.1⟩
      · rw [ha] at HRW HE2
        cases hd : okN d
        · rw [hd] at HWD HE2
          have HE3 := Lib.hid (show tabsR [] left L = .error (left - pj - 1, 122) from HE2.out.symm)
          have HATP := Lib.hid (show at_ + pj + 1 = ((n - (left - pj - 1) : Nat) : Int) by rw [HAT.out]; have := HLF.out; have := HPJ.out; omega)
          obtain ⟨hs0, hs1⟩ : 0 ≤ at_ ∧ at_ ≤ 1048576 := by rw [HAT.out]; omega
          have hq2b : (pj : Int) ≤ 2097152 := by have := HQ2.out; omega
          clear ha hd
          go_wp2_with (first
            | (go_at_call 89; refine (HRW.out w15).mono ?_; rintro e u ⟨rfl, rfl⟩)
            | (go_at_call 90; refine (HWD.out w15).mono ?_; rintro e u ⟨rfl, rfl⟩)
            | (refine wpList_store_all rfl 94 _ _ rfl gf 94 2 _ (ftF (at_ + pj + 1) 122) rfl rfl HS15.out.flt sizeFt (ftF_one _ _) ?_; intro w7 h7 hT7 hs7))
          refine bodyPost_ret (result_seg rfl _ _ gf _ 2 _ _ rfl h7 Tryd.underlying94 rfl sizeFt) rfl ?_
          refine ⟨touch_then HS15.out.touch (hT7.below hne1.2.2.2.2.2.2.2.2.2.1 HS15.out.touch.size), ?_⟩
          rw [HR.out, HI.out, HE3.out]
          exact ⟨by rw [HATP.out], _, HS15.out.pk.touch hT7 hne1.2.1⟩
        · rw [hd] at HWD HE2
          have HE3 := Lib.hid (show tabsR ((List.range (j + 1)).map fun p => if p = j then (a, d) else G p) (left - 2 * (j + 1)) (L.drop (2 * (j + 1))) = tabsR [] left L by
            have h5 : (List.range (j + 1)).map (fun p => if p = j then (a, d) else G p) = (List.range j).map G ++ [(a, d)] := by
              rw [List.range_succ, List.map_append, List.map_cons, List.map_nil, if_pos rfl]
              congr 1
              refine List.map_congr_left fun p hp => ?_
              rw [if_neg (by have := List.mem_range.1 hp; omega)]
            have h6 : tabsR ((List.range j).map G ++ [(a, d)]) (left - pj - 2) (L.drop (pj + 1 + 1)) = tabsR [] left L := HE2.out
            rw [h5, ← h6, show left - 2 * (j + 1) = left - pj - 2 by have := HPJ.out; omega, show 2 * (j + 1) = pj + 1 + 1 by have := HPJ.out; omega])
          clear ha hd HE2
          go_upto_region 11 with (first
            | (go_at_call 89; refine (HRW.out w15).mono ?_; rintro e u ⟨rfl, rfl⟩)
            | (go_at_call 90; refine (HWD.out w15).mono ?_; rintro e u ⟨rfl, rfl⟩))
          have x3 : w15.cell? ⟨gk, 3, none⟩ = some (.slice (some ⟨gt, 0, none⟩) q q) := by rw [HS15.out.pk.cell 3 (by decide), HF1.out]; rfl
          clear HRW HWD x0 x1 x9
          refine wp_region_tail 7 (by kernel_rfl) (by kernel_rfl) fun W hW => ?_
          simp only [List.take_succ_cons, List.take_zero, List.drop_succ_cons, List.drop_zero]
          have y3 : W.cell? ⟨gk, 3, none⟩ = some (.slice (some ⟨gt, 0, none⟩) q q) := by rw [hW]; exact x3
          have HSW := Lib.hid (show TabS w gk gb gf gt b off q X F1 L G W by rw [hW]; exact HS15.out.drewN 1)
          have HVW := Lib.hid (show ∀ k, k < 2 → W.cell? ⟨gv, 0 + k, none⟩ = some (tabF (a, d) k) from fun k hk => by rw [hW, Nat.zero_add]; exact H15.out.cell k hk)
          obtain ⟨X2, hX2⟩ : ∃ X2, X2 = tabF (a, d) := ⟨_, rfl⟩
          have HX21 := Lib.hid (show ∀ p, p < 2 → (X2 p).oneCell' = true by rw [hX2]; exact tabF_one _)
          rw [← hX2] at HVW
          have HX2 := Lib.hid hX2
          clear hW x3 HS15 H15 hX2
          iterate 5 still_step
          refine wpStill_load_cells rfl 69 _ rfl gv 0 rfl 2 X2 _ HVW.out Tryd.underlying69 rfl sizeTab ?_
          still_step
          refine wpStill_nil ?_
          go_wp2_with (refine wpList_store_seg rfl 69 _ _ rfl gt (j * 2) 69 (q * 2) 2 (rowT G) X2 rfl rfl HSW.out.row (by omega) sizeTab HX21.out ?_; intro w16 h16 hT16 hs16)
          go_roundw
          case rel =>
            rw [HX2.out] at h16
            exact ⟨j + 1, fun p => if p = j then (a, d) else G p, by go_num, by omega, HE3, HSW.out.at_row hT16 (h16.congr (rowT_upd G j (a, d) (q * 2)))⟩
          case measure => simp [intOf]; omega
    · obtain rfl : j = q := by omega
      have HE2 := Lib.hid (show tabsR [] left L = .ok ((List.range j).map G) by
        rw [← HE.out, List.drop_of_length_le (by have := HL.out; omega)]; rfl)
      have hne1 := HS.out.ne
      clear hjq HE
      go_wp2_with (refine wpList_store_all rfl 94 _ _ rfl gf 94 2 _ (ftF 0 0) rfl rfl HS.out.flt sizeFt (ftF_one _ _) ?_; intro w7 h7 hT7 hs7)
      refine bodyPost_ret (result_seg rfl _ _ gf _ 2 _ _ rfl h7 Tryd.underlying94 rfl sizeFt) rfl ?_
      have hTT := touch_then HS.out.touch (hT7.below hne1.2.2.2.2.2.2.2.2.2.1 HS.out.touch.size)
      refine ⟨hTT, ?_⟩
      rw [HR.out, HI.out, HE2.out]
      refine ⟨rfl, vd, _, vc, ?_, ownB_touch HK.out.data hTT HK.out.blk (by decide), own_of_fb j (by simp) (HS.out.row.touch hT7 (fun e => hne1.2.2.2.2.1 e.symm)) (Nat.le_trans HBS.out hne1.2.2.2.2.2.2.2.2.2.2) (by unfold maxLen; omega) ?_, ownB_touch HK.out.code hTT HK.out.blk (by decide)⟩
      · refine (HS.out.pk.touch hT7 hne1.2.1).congr fun p hp => ?_
        rw [HF1.out, HF0.out]
        rcases (show p = 0 ∨ p = 1 ∨ p = 2 ∨ p = 3 ∨ p = 4 by omega) with rfl | rfl | rfl | rfl | rfl <;> rfl
      · intro i x hi k hk
        have hij : i < j := by
          rcases Nat.lt_or_ge i j with h1 | h1
          · exact h1
          · rw [List.getElem?_eq_none (by simpa using h1)] at hi; cases hi
        rw [rowT_at G i k hk]
        have e : G i = x := by simpa [hij] using hi
        rw [e]
end Go.Proofs.YtlodoinmippebaaDoor.Pak
/- Package pack: what a section says is put into a container. -/
namespace Go.Proofs.YtlodoinmippebaaDoor.Pak
open Go.ChangeShapes Go.WideShapes Go.ChangeAt Go.RowKit
set_option linter.unusedVariables false
set_option linter.unusedSimpArgs false
set_option maxRecDepth 100000
theorem PkB.touch {W W' : World} {gk base g : Nat} {k : Pk} {vd vt vc : Value} {t : TypeId} {cs : Array Value} (h : PkB W gk base k vd vt vc) (ht : Touch g W W') (hb : Blk W g t cs) (h1 : 5 ≠ t) (h2 : 69 ≠ t) (h3 : 25 ≠ t) : PkB W' gk base k vd vt vc :=
  ⟨h.blk.touch ht (Blk.ne_ h.blk hb h3), ownB_touch h.data ht hb h1, ownT_touch h.tabs ht hb h2, ownB_touch h.code ht hb h1⟩
theorem IntoRes.form {n gk base : Nat} {r : Except Fl Pk} {e : Ending} {w : World} (h : IntoRes n gk base r e w) : ∃ fa fe, e = .returned (.agg (arr 2 (ftF fa fe))) := by
  unfold IntoRes at h
  cases r with
  | error x => obtain ⟨lf, er⟩ := x; exact ⟨_, _, h.1⟩
  | ok k => exact ⟨_, _, h.1⟩
theorem IntoRes.touch {n gk base g : Nat} {r : Except Fl Pk} {e : Ending} {w w' : World} {t : TypeId} {cs : Array Value} (h : IntoRes n gk base r e w) (ht : Touch g w w') (hb : Blk w g t cs) (h1 : 5 ≠ t) (h2 : 69 ≠ t) (h3 : 25 ≠ t) : IntoRes n gk base r e w' := by
  unfold IntoRes at h ⊢
  cases r with
  | error x =>
    obtain ⟨lf, er⟩ := x
    obtain ⟨he, f, hf⟩ := h
    exact ⟨he, f, hf.touch ht (Blk.ne_ hf hb h3)⟩
  | ok k =>
    obtain ⟨he, vd, vt, vc, hk⟩ := h
    exact ⟨he, vd, vt, vc, hk.touch ht hb h1 h2 h3⟩
set_option maxHeartbeats 8000000 in
theorem into_any (w : World) (gk base n b off left m : Nat) (k : Pk) (vd vt vc : Value) (kd at_ : Int) (L : List Int) (hk : PkB w gk base k vd vt vc) (hL : L.length = m) (hkd : 1 ≤ kd ∧ kd ≤ 4) (hun : uncounted kd m = 0) (hY : Bytes L) (hA : BytesAt w (some ⟨b, off, none⟩) L) (hne : b ≠ gk) (hlt : b < w.heap.size) (hat : at_ = (n - left : Nat)) (hleft : m ≤ left ∧ left ≤ n) (hn : n ≤ 1048576) (hbase : base ≤ w.heap.size) :
    Calls Tryd.prog 80 #[.agg (arr 3 (secF ⟨kd, at_, some ⟨b, off, none⟩, m, m, L⟩)), .pointer (some ⟨gk, 0, none⟩)] w fun e w' => Touch gk w w' ∧ IntoRes n gk base (into k kd L left) e w' := by
  obtain ⟨X, hX⟩ : ∃ X, X = secF ⟨kd, at_, some ⟨b, off, none⟩, m, m, L⟩ := ⟨_, rfl⟩
  rw [← hX]
  have HX := Lib.hid hX
  have HK := Lib.hid hk
  have HL := Lib.hid hL
  have HY := Lib.hid hY
  have HA := Lib.hid hA
  have HAT := Lib.hid hat
  have HLF := Lib.hid hleft
  have HBS := Lib.hid hbase
  have HUN := Lib.hid hun
  have HSl := Lib.hid (show Sl w (some ⟨b, off, none⟩) m m L from ⟨Lib.hid hL, Nat.le_refl _, hA, fun b' off' e => by injection e with e; injection e with e1; omega⟩)
  have HLT := Lib.hid hlt
  have HM := Lib.hid (show m ≤ 1048576 by omega)
  clear hX hk hL hY hA hat hleft hbase hun hlt
  obtain ⟨r, hr⟩ : ∃ r, r = into k kd L left := ⟨_, rfl⟩
  rw [← hr]
  have HR := Lib.hid hr
  clear hr
  go_enter Tryd.func80, Tryd.ntmps80
  go_upto_region 1 with (first
    | (refine wpList_box_seg rfl _ (.tmp 0) rfl 3 X rfl ?_; intro w1 h1 hB1 hs1)
    | (refine wpList_alloc_seg rfl 94 rfl 2 (ftF 0 0) zeroFt ?_; intro w2 h2 hB2 hs2))
  obtain ⟨gb, hgb⟩ : ∃ gb, gb = w.heap.size := ⟨_, rfl⟩
  obtain ⟨gf, hgf⟩ : ∃ gf, gf = w1.heap.size := ⟨_, rfl⟩
  rw [← hgb] at h1 ⊢
  rw [← hgf] at h2 ⊢
  have hb2 : Below w.heap.size w w2 := hB1.trans (hB2.mono hB1.size)
  have HB2 := Lib.hid hb2
  have HBX := Lib.hid (h1.up hB2)
  have HFT := Lib.hid h2
  have HK2 := Lib.hid (HK.out.up hb2)
  have HNE := Lib.hid (show gk ≠ gb ∧ gk ≠ gf ∧ w.heap.size ≤ gf by have := HK.out.blk.lt; exact ⟨by omega, by omega, by omega⟩)
  have x0 : w2.cell? ⟨gb, 0, none⟩ = some (.int .i64 kd) := by rw [HBX.out.cell 0 (by decide), HX.out]; rfl
  have x2 : w2.cell? ⟨gb, 2, none⟩ = some (.slice (some ⟨b, off, none⟩) m m) := by rw [HBX.out.cell 2 (by decide), HX.out]; rfl
  clear h1 hB1 hs1 h2 hB2 hs2 hgb hgf hb2
  rcases (show kd = 1 ∨ kd = 2 ∨ kd = 3 ∨ kd = 4 by omega) with rfl | rfl | rfl | rfl
  · have HM4 := Lib.hid (show m = 4 by
      have h5 := HUN.out
      unfold uncounted at h5
      by_cases h6 : (m : Int) = 0 ∨ ((1 : Int) = 1 ∧ (m : Int) ≠ 4) ∨ ((1 : Int) = 2 ∧ (m : Int) % 2 ≠ 0)
      · rw [if_pos h6] at h5; exact absurd h5 (by decide)
      · omega)
    obtain rfl : m = 4 := HM4.out
    have HCT := Lib.hid (lensM_any w2 gk base n b off left k vd vt vc 1 at_ L HK2.out HL.out HY.out (HA.out.below HB2.out) hne HAT.out)
    go_wp2_with (first
      | (refine wpList_load_all rfl 135 _ rfl gb rfl 135 3 X _ HBX.out Tryd.underlying135 rfl sizeSec ?_)
      | (go_at_call 109; rw [HX.out]; refine (HCT.out).mono ?_; rintro e w3 ⟨hT3, h3⟩; obtain ⟨fa, fe, rfl⟩ := h3.form; rw [← HX.out])
      | (refine wpList_store_all rfl 94 _ _ rfl gf 94 2 _ (ftF fa fe) rfl rfl (HFT.out.touch hT3 (fun e => HNE.out.2.1 e.symm)) sizeFt (ftF_one _ _) ?_; intro w7 h7 hT7 hs7))
    refine bodyPost_ret (result_seg rfl _ _ gf _ 2 _ _ rfl h7 Tryd.underlying94 rfl sizeFt) rfl ?_
    have hT23 := (Touch.of_below (g := gk) HB2.out).trans hT3
    refine ⟨touch_then hT23 (hT7.below HNE.out.2.2 hT23.size), ?_⟩
    rw [HR.out]
    exact h3.touch hT7 (HFT.out.touch hT3 (fun e => HNE.out.2.1 e.symm)) (by decide) (by decide) (by decide)
  · have HM4 := Lib.hid (show ∃ q, m = 2 * q by
      have h5 := HUN.out
      unfold uncounted at h5
      by_cases h6 : (m : Int) = 0 ∨ ((2 : Int) = 1 ∧ (m : Int) ≠ 4) ∨ ((2 : Int) = 2 ∧ (m : Int) % 2 ≠ 0)
      · rw [if_pos h6] at h5; exact absurd h5 (by decide)
      · exact ⟨m / 2, by omega⟩)
    obtain ⟨q, rfl⟩ := HM4.out
    have HCT := Lib.hid (tablesM_any w2 gk base n b off left q k vd vt vc 2 at_ L HK2.out HL.out (by have := HM.out; omega) HY.out (HA.out.below HB2.out) hne (Nat.lt_of_lt_of_le HLT.out HB2.out.size) HAT.out HLF.out hn (Nat.le_trans HBS.out HB2.out.size))
    go_wp2_with (first
      | (refine wpList_load_all rfl 135 _ rfl gb rfl 135 3 X _ HBX.out Tryd.underlying135 rfl sizeSec ?_)
      | (go_at_call 110; rw [HX.out]; refine (HCT.out).mono ?_; rintro e w3 ⟨hT3, h3⟩; obtain ⟨fa, fe, rfl⟩ := h3.form; rw [← HX.out])
      | (refine wpList_store_all rfl 94 _ _ rfl gf 94 2 _ (ftF fa fe) rfl rfl (HFT.out.touch hT3 (fun e => HNE.out.2.1 e.symm)) sizeFt (ftF_one _ _) ?_; intro w7 h7 hT7 hs7))
    refine bodyPost_ret (result_seg rfl _ _ gf _ 2 _ _ rfl h7 Tryd.underlying94 rfl sizeFt) rfl ?_
    have hT23 := (Touch.of_below (g := gk) HB2.out).trans hT3
    refine ⟨touch_then hT23 (hT7.below HNE.out.2.2 hT23.size), ?_⟩
    rw [HR.out]
    exact h3.touch hT7 (HFT.out.touch hT3 (fun e => HNE.out.2.1 e.symm)) (by decide) (by decide) (by decide)
  · have c0 : w2.cell? ⟨gk, 2, none⟩ = some (pkF k.lo k.hi vd vt vc 2) := HK2.out.blk.cell 2 (by decide)
    have z0 := HK2.out.blk.frozen 2
    go_upto_region 10 with (go_at_call 37; refine (copied_any w2 _ m m L (HSl.out.up HB2.out) (by have := HM.out; omega)).mono ?_; rintro e w3 ⟨v3, rfl, hO3, hB3⟩; obtain ⟨A3, n3, c3, rfl, -⟩ := own_full hO3; have q0 : w3.cell? ⟨gk, 2, none⟩ = some (pkF k.lo k.hi vd vt vc 2) := (HK2.out.blk.up hB3).cell 2 (by decide); have f0 : w3.frozen? ⟨gk, 2, none⟩ = false := (HK2.out.blk.up hB3).frozen 2)
    obtain ⟨w4, hw4⟩ : ∃ u, u = w3.setCell ⟨gk, 2, none⟩ (.slice A3 n3 c3) := ⟨_, rfl⟩
    have ht4 : Touch gk w3 w4 := by rw [hw4]; exact Touch.set_ w3 2 _
    have hk3 := HK2.out.up hB3
    have hk4 : PkB w4 gk base { k with data := L } (.slice A3 n3 c3) vt vc := by
      refine ⟨?_, ?_, ?_, ?_⟩
      · rw [hw4]
        refine (hk3.blk.set_ 2 _).congr fun p hp => ?_
        rcases (show p = 0 ∨ p = 1 ∨ p = 2 ∨ p = 3 ∨ p = 4 by omega) with rfl | rfl | rfl | rfl | rfl <;> rfl
      · exact ownB_touch (OwnB_base hO3 (Nat.le_trans HBS.out HB2.out.size)) ht4 hk3.blk (by decide)
      · exact ownT_touch hk3.tabs ht4 hk3.blk (by decide)
      · exact ownB_touch hk3.code ht4 hk3.blk (by decide)
    have hT24 : Touch gk w w4 := ((Touch.of_below (g := gk) HB2.out).trans (Touch.of_below hB3)).trans ht4
    have HK4 := Lib.hid hk4
    have HF4 := Lib.hid ((HFT.out.up hB3).touch ht4 (fun e => HNE.out.2.1 e.symm))
    have HT24 := Lib.hid hT24
    rw [← hw4]
    clear hw4 ht4 hk3 hk4 hT24 hO3 hB3 q0 f0 c0 z0
    go_wp2_with (refine wpList_store_all rfl 94 _ _ rfl gf 94 2 _ (ftF 0 0) rfl rfl HF4.out sizeFt (ftF_one _ _) ?_; intro w7 h7 hT7 hs7)
    refine bodyPost_ret (result_seg rfl _ _ gf _ 2 _ _ rfl h7 Tryd.underlying94 rfl sizeFt) rfl ?_
    refine ⟨touch_then HT24.out (hT7.below HNE.out.2.2 HT24.out.size), ?_⟩
    rw [HR.out]
    exact ⟨rfl, _, _, _, HK4.out.touch hT7 HF4.out (by decide) (by decide) (by decide)⟩
  · have c0 : w2.cell? ⟨gk, 4, none⟩ = some (pkF k.lo k.hi vd vt vc 4) := HK2.out.blk.cell 4 (by decide)
    have z0 := HK2.out.blk.frozen 4
    go_upto_region 10 with (go_at_call 37; refine (copied_any w2 _ m m L (HSl.out.up HB2.out) (by have := HM.out; omega)).mono ?_; rintro e w3 ⟨v3, rfl, hO3, hB3⟩; obtain ⟨A3, n3, c3, rfl, -⟩ := own_full hO3; have q0 : w3.cell? ⟨gk, 4, none⟩ = some (pkF k.lo k.hi vd vt vc 4) := (HK2.out.blk.up hB3).cell 4 (by decide); have f0 : w3.frozen? ⟨gk, 4, none⟩ = false := (HK2.out.blk.up hB3).frozen 4)
    obtain ⟨w4, hw4⟩ : ∃ u, u = w3.setCell ⟨gk, 4, none⟩ (.slice A3 n3 c3) := ⟨_, rfl⟩
    have ht4 : Touch gk w3 w4 := by rw [hw4]; exact Touch.set_ w3 4 _
    have hk3 := HK2.out.up hB3
    have hk4 : PkB w4 gk base { k with code := L } vd vt (.slice A3 n3 c3) := by
      refine ⟨?_, ?_, ?_, ?_⟩
      · rw [hw4]
        refine (hk3.blk.set_ 4 _).congr fun p hp => ?_
        rcases (show p = 0 ∨ p = 1 ∨ p = 2 ∨ p = 3 ∨ p = 4 by omega) with rfl | rfl | rfl | rfl | rfl <;> rfl
      · exact ownB_touch hk3.data ht4 hk3.blk (by decide)
      · exact ownT_touch hk3.tabs ht4 hk3.blk (by decide)
      · exact ownB_touch (OwnB_base hO3 (Nat.le_trans HBS.out HB2.out.size)) ht4 hk3.blk (by decide)
    have hT24 : Touch gk w w4 := ((Touch.of_below (g := gk) HB2.out).trans (Touch.of_below hB3)).trans ht4
    have HK4 := Lib.hid hk4
    have HF4 := Lib.hid ((HFT.out.up hB3).touch ht4 (fun e => HNE.out.2.1 e.symm))
    have HT24 := Lib.hid hT24
    rw [← hw4]
    clear hw4 ht4 hk3 hk4 hT24 hO3 hB3 q0 f0 c0 z0
    go_wp2_with (refine wpList_store_all rfl 94 _ _ rfl gf 94 2 _ (ftF 0 0) rfl rfl HF4.out sizeFt (ftF_one _ _) ?_; intro w7 h7 hT7 hs7)
    refine bodyPost_ret (result_seg rfl _ _ gf _ 2 _ _ rfl h7 Tryd.underlying94 rfl sizeFt) rfl ?_
    refine ⟨touch_then HT24.out (hT7.below HNE.out.2.2 HT24.out.size), ?_⟩
    rw [HR.out]
    exact ⟨rfl, _, _, _, HK4.out.touch hT7 HF4.out (by decide) (by decide) (by decide)⟩
end Go.Proofs.YtlodoinmippebaaDoor.Pak
/- Package pack: all sections are read. -/
namespace Go.Proofs.YtlodoinmippebaaDoor.Pak
open Go.ChangeShapes Go.WideShapes Go.ChangeAt Go.RowKit
set_option linter.unusedVariables false
set_option linter.unusedSimpArgs false
set_option maxRecDepth 100000
theorem packR_sec {last : Int} {k : Pk} {r : List Int} (hr : r ≠ []) : packR last k r = match secR last r with
  | .error e => .error e
  | .ok ((kind, c), t) => match into k kind c (c.length + t.length) with
    | .error e => .error e
    | .ok k' => if t.length < r.length then packR kind k' t else .error (0, 0) := by rw [packR, if_neg hr]; rfl
theorem packR_end (last : Int) (k : Pk) : packR last k [] = if last = 0 then .error (0, 120) else .ok k := by rw [packR, if_pos rfl]
theorem suffix_drop {B X t : List Int} (h : B = X ++ t) : B.drop (B.length - t.length) = t := by
  subst h
  rw [List.length_append, Nat.add_sub_cancel]
  exact List.drop_left
/-- the bytes behind a section's beginning -/
theorem sec_parts {B c t : List Int} {p : Nat} {kind : Int} (hp : p ≤ B.length) (h : B.drop p = sec kind c ++ t) (hc : c ≠ []) :
    B.length = p + (4 + c.length + t.length) ∧ c = (B.drop (p + 4)).take c.length ∧ t = B.drop (B.length - t.length) := by
  have hl : B.length - p = 4 + c.length + t.length := by
    have h1 := congrArg List.length h
    rw [List.length_drop, sec_ne hc, List.length_append, List.length_cons, List.length_append, le_len] at h1
    omega
  refine ⟨by omega, ?_, ?_⟩
  · have h2 : B.drop (p + 4) = c ++ t := by
      rw [← List.drop_drop, h, sec_ne hc, List.cons_append, List.append_assoc]
      show (le c.length 3 ++ (c ++ t)).drop 3 = _
      rw [List.drop_append_of_le_length (by rw [le_len]; exact Nat.le_refl _), List.drop_of_length_le (by rw [le_len]; exact Nat.le_refl _), List.nil_append]
    rw [h2, List.take_left]
  · refine (suffix_drop (X := B.take p ++ sec kind c) ?_).symm
    rw [List.append_assoc, ← h, List.take_append_drop]
theorem follows_rng {last kind : Int} (h0 : 0 ≤ last) (h : follows last kind = true) : 1 ≤ kind ∧ kind ≤ 4 := by
  unfold follows at h
  by_cases e : last = 0
  · rw [if_pos e] at h
    have : kind = 1 := of_decide_eq_true h
    omega
  · rw [if_neg e, Bool.and_eq_true] at h
    have h1 := of_decide_eq_true h.1
    have h2 := of_decide_eq_true h.2
    omega
structure PS (w : World) (g gk gr base b off n : Nat) (B : List Int) (p : Nat) (last : Int) (k : Pk) (vd vt vc : Value) (W : World) : Prop where
  rd : FB W g 98 3 (rdF (some ⟨b, off, none⟩) n p last)
  pk : PkB W gk base k vd vt vc
  byt : BytesAt W (some ⟨b, off, none⟩) B
  flt : FB W gr 94 2 (ftF 0 0)
  below : Below base w W
  lt : b < W.heap.size ∧ base ≤ W.heap.size
  ne : g ≠ gk ∧ g ≠ gr ∧ gk ≠ gr ∧ b ≠ g ∧ b ≠ gk ∧ base ≤ g ∧ base ≤ gk ∧ base ≤ gr
  far : ∀ j, j < w.heap.size → j ≠ g → j ≠ gk → W.heap[j]? = w.heap[j]?
  sz : w.heap.size ≤ W.heap.size ∧ w.heap.size ≤ gr
theorem PS.up {w : World} {g gk gr base b off n : Nat} {B : List Int} {p : Nat} {last : Int} {k : Pk} {vd vt vc : Value} {W W' : World} (h : PS w g gk gr base b off n B p last k vd vt vc W) (hb : Below W.heap.size W W') : PS w g gk gr base b off n B p last k vd vt vc W' :=
  ⟨h.rd.up hb, h.pk.up hb, h.byt.below hb, h.flt.up hb, h.below.trans (hb.mono h.lt.2), ⟨Nat.lt_of_lt_of_le h.lt.1 hb.size, Nat.le_trans h.lt.2 hb.size⟩, h.ne, fun j hj a c => (hb.block j (Nat.lt_of_lt_of_le hj h.sz.1)).trans (h.far j hj a c), ⟨Nat.le_trans h.sz.1 hb.size, h.sz.2⟩⟩
theorem PS.drewN {w : World} {g gk gr base b off n : Nat} {B : List Int} {p : Nat} {last : Int} {k : Pk} {vd vt vc : Value} {W : World} (h : PS w g gk gr base b off n B p last k vd vt vc W) (m : Nat) : PS w g gk gr base b off n B p last k vd vt vc (W.drewN m) := h.up (below_drewN (Below.refl _ _) m)
/-- the reader has gone on -/
theorem PS.at_rd {w : World} {g gk gr base b off n : Nat} {B : List Int} {p p' : Nat} {last last' : Int} {k : Pk} {vd vt vc : Value} {W W' : World} (h : PS w g gk gr base b off n B p last k vd vt vc W) (ht : Touch g W W') (hr : FB W' g 98 3 (rdF (some ⟨b, off, none⟩) n p' last')) : PS w g gk gr base b off n B p' last' k vd vt vc W' := by
  obtain ⟨n1, n2, n3, n4, n5, n6, n7, n8⟩ := h.ne
  exact ⟨hr, h.pk.touch ht h.rd (by decide) (by decide) (by decide), bytes_touch h.byt ht n4, h.flt.touch ht (fun e => n2 e.symm), h.below.trans (ht.below n6 h.lt.2), ⟨Nat.lt_of_lt_of_le h.lt.1 ht.size, Nat.le_trans h.lt.2 ht.size⟩, h.ne, fun j hj a c => (ht.block j (Nat.lt_of_lt_of_le hj h.sz.1) a).trans (h.far j hj a c), ⟨Nat.le_trans h.sz.1 ht.size, h.sz.2⟩⟩
/-- the container has turned -/
theorem PS.at_pk {w : World} {g gk gr base b off n : Nat} {B : List Int} {p : Nat} {last : Int} {k k' : Pk} {vd vt vc vd' vt' vc' : Value} {W W' : World} (h : PS w g gk gr base b off n B p last k vd vt vc W) (ht : Touch gk W W') (hk : PkB W' gk base k' vd' vt' vc') : PS w g gk gr base b off n B p last k' vd' vt' vc' W' := by
  obtain ⟨n1, n2, n3, n4, n5, n6, n7, n8⟩ := h.ne
  exact ⟨h.rd.touch ht n1, hk, bytes_touch h.byt ht n5, h.flt.touch ht (fun e => n3 e.symm), h.below.trans (ht.below n7 h.lt.2), ⟨Nat.lt_of_lt_of_le h.lt.1 ht.size, Nat.le_trans h.lt.2 ht.size⟩, h.ne, fun j hj a c => (ht.block j (Nat.lt_of_lt_of_le hj h.sz.1) c).trans (h.far j hj a c), ⟨Nat.le_trans h.sz.1 ht.size, h.sz.2⟩⟩
theorem PS.at_tmp {w : World} {g gk gr base b off n x : Nat} {B : List Int} {p : Nat} {last : Int} {k : Pk} {vd vt vc : Value} {W W' : World} {t : TypeId} {cs : Array Value} (h : PS w g gk gr base b off n B p last k vd vt vc W) (ht : Touch x W W') (hb : Blk W x t cs) (h1 : 5 ≠ t) (h2 : 69 ≠ t) (h3 : 25 ≠ t) (n1 : g ≠ x) (n2 : gr ≠ x) (n3 : b ≠ x) (n4 : base ≤ x) (n5 : w.heap.size ≤ x) : PS w g gk gr base b off n B p last k vd vt vc W' :=
  ⟨h.rd.touch ht n1, h.pk.touch ht hb h1 h2 h3, bytes_touch h.byt ht n3, h.flt.touch ht n2, h.below.trans (ht.below n4 h.lt.2), ⟨Nat.lt_of_lt_of_le h.lt.1 ht.size, Nat.le_trans h.lt.2 ht.size⟩, h.ne, fun j hj a c => (ht.block j (Nat.lt_of_lt_of_le hj h.sz.1) (by omega)).trans (h.far j hj a c), ⟨Nat.le_trans h.sz.1 ht.size, h.sz.2⟩⟩
theorem ft_inj {a e a' e' : Int} (h : Ending.returned (.agg (arr 2 (ftF a e))) = .returned (.agg (arr 2 (ftF a' e')))) : a = a' ∧ e = e' := by
  injection h with h
  injection h with h
  have h0 := congrArg (fun x => x[0]?) h
  have h1 := congrArg (fun x => x[1]?) h
  simp only [arr_get 2 _ 0 (by decide), arr_get 2 _ 1 (by decide)] at h0 h1
  injection h0 with h0
  injection h0 with _ h0
  injection h1 with h1
  injection h1 with _ h1
  exact ⟨h0, h1⟩
def atOf (g : Nat) (W : World) : Int := intOf ((W.cell? ⟨g, 1, none⟩).getD undef)
set_option maxHeartbeats 8000000 in
theorem packM_any (w : World) (g gk base b off n p : Nat) (last : Int) (k : Pk) (vd vt vc : Value) (B : List Int) (hR : FB w g 98 3 (rdF (some ⟨b, off, none⟩) n p last)) (hK : PkB w gk base k vd vt vc) (hB : B.length = n) (hn : n ≤ 131072) (hp : p ≤ n) (hY : Bytes B) (hA : BytesAt w (some ⟨b, off, none⟩) B) (hl0 : 0 ≤ last)
    (hne : g ≠ gk ∧ b ≠ g ∧ b ≠ gk ∧ base ≤ g ∧ base ≤ gk) (hlt : b < w.heap.size) (hbase : base ≤ w.heap.size) :
    Calls Tryd.prog 52 #[.pointer (some ⟨g, 0, none⟩), .pointer (some ⟨gk, 0, none⟩)] w fun e w' => Below base w w' ∧ (∀ j, j < w.heap.size → j ≠ g → j ≠ gk → w'.heap[j]? = w.heap[j]?) ∧ IntoRes n gk base (packR last k (B.drop p)) e w' := by
  obtain ⟨res, hres⟩ : ∃ r, r = packR last k (B.drop p) := ⟨_, rfl⟩
  rw [← hres]
  have HRES := Lib.hid hres
  have HL := Lib.hid hB
  have HY := Lib.hid hY
  have HR := Lib.hid hR
  have HK := Lib.hid hK
  have HA := Lib.hid hA
  clear hres hB hY hR hK hA
  go_enter Tryd.func52, Tryd.ntmps52
  go_wp2_with (refine wpList_alloc_seg rfl 94 rfl 2 (ftF 0 0) zeroFt ?_; intro w1 h1 hB1 hs1)
  obtain ⟨gr, hgr⟩ : ∃ gr, gr = w.heap.size := ⟨_, rfl⟩
  rw [← hgr] at h1 ⊢
  have HP0 := Lib.hid (show PS w g gk gr base b off n B p last k vd vt vc w1 from ⟨HR.out.up hB1, HK.out.up hB1, HA.out.below hB1, h1, hB1.mono hbase, ⟨Nat.lt_of_lt_of_le hlt hB1.size, Nat.le_trans hbase hB1.size⟩, by
    have h3 := HR.out.lt
    have h4 := HK.out.blk.lt
    exact ⟨hne.1, by omega, by omega, hne.2.1, hne.2.2.1, hne.2.2.2.1, hne.2.2.2.2, by omega⟩, fun j hj _ _ => hB1.block j hj, ⟨hB1.size, by omega⟩⟩)
  clear h1 hB1 hs1 hgr hlt hbase hne HR HK HA
  simp only [Act.put, List.setIfInBounds_toArray, List.set_cons_zero, List.set_cons_succ]
  go_loopw [5, 6, 7, 8, 9, 10, 11, 12, 13, 14, 15, 16, 17, 18, 19, 20, 21, 22, 23, 24, 25, 26, 27, 28, 29, 30, 31] (fun _ _ _ _ _ _ _ _ _ _ _ _ _ _ _ _ _ _ _ _ _ _ _ _ _ _ _ wr => ∃ (p : Nat) (last : Int) (k : Pk) (vd vt vc : Value), p ≤ n ∧ 0 ≤ last ∧ Hid (packR last k (B.drop p) = res) ∧ PS w g gk gr base b off n B p last k vd vt vc wr) (fun _ _ _ _ _ _ _ _ _ _ _ _ _ _ _ _ _ _ _ _ _ _ _ _ _ _ _ wr => (n - atOf g wr).toNat)
  case atStart => exact ⟨p, last, k, vd, vt, vc, hp, hl0, Lib.hid HRES.out.symm, HP0.out⟩
  case round =>
    clear hl0 hp HP0 HRES
    obtain ⟨p, last, k, vd, vt, vc, hp, hl0, HE, hP⟩ := hrel
    have HP := Lib.hid hP
    have x0 : wr.cell? ⟨g, 0, none⟩ = some (.slice (some ⟨b, off, none⟩) n n) := hP.rd.cell 0 (by decide)
    have x1 : wr.cell? ⟨g, 1, none⟩ = some (.int .i64 p) := hP.rd.cell 1 (by decide)
    have HAT := Lib.hid (show atOf g wr = p by unfold atOf; rw [x1]; rfl)
    clear hP
    by_cases hlt : p < n
    · have hlt' : (p : Int) < n := by omega
      have hrn : B.drop p ≠ [] := fun e => by have := congrArg List.length e; rw [List.length_drop, List.length_nil] at this; have := HL.out; omega
      rw [packR_sec hrn] at HE
      go_upto_region 1 with fail
      go_quiet (fail)
      obtain ⟨w2, hw2⟩ : ∃ u, u = wr.drewN nq := ⟨_, rfl⟩
      have HP2 := Lib.hid (show PS w g gk gr base b off n B p last k vd vt vc w2 by rw [hw2]; exact HP.out.drewN nq)
      rw [← hw2]
      clear hw2 x0 x1 HP
      go_upto_region 2 with fail
      have HSE := Lib.hid (section_any w2 g b off n p last B HP2.out.rd HL.out hn hlt HY.out HP2.out.byt HP2.out.ne.2.2.2.1)
      unfold SecEnd at HSE
      cases hs : secR last (B.drop p) with
      | error x =>
        obtain ⟨lf, er⟩ := x
        rw [hs] at HE HSE
        have hnz := (secR_err hs).1
        have HE2 := Lib.hid (show res = .error (lf, er) from HE.out.symm)
        have tz : (er == 0) = false := by rw [beq_eq_false_iff_ne]; exact hnz
        have tn : (er != 0) = true := by rw [bne_iff_ne]; exact hnz
        clear hs hnz HE
        go_upto_region 3 with (first
          | (go_at_call 79; refine HSE.out.mono ?_; rintro e w3 ⟨hT3, rfl, hR3⟩)
          | (refine wpList_alloc_seg rfl 135 rfl 3 (secF Sc.zero) zeroSec ?_; intro w4 h4 hB4 hs4)
          | (refine wpList_alloc_seg rfl 94 rfl 2 (ftF 0 0) zeroFt ?_; intro w5 h5 hB5 hs5)
          | (refine wpList_store_all rfl 135 _ _ rfl w3.heap.size 135 3 _ (secF Sc.zero) rfl rfl (h4.up hB5) sizeSec (secF_one _) ?_; intro w6 h6 hT6 hs6; have h56 := h5.touch hT6 (by omega))
          | (refine wpList_store_all rfl 94 _ _ rfl w4.heap.size 94 2 _ (ftF ((n - lf : Nat)) (er)) rfl rfl h56 sizeFt (ftF_one _ _) ?_; intro w7 h7 hT7 hs7))
        obtain ⟨gs, hgs⟩ : ∃ gs, gs = w3.heap.size := ⟨_, rfl⟩
        obtain ⟨gf, hgf⟩ : ∃ gf, gf = w4.heap.size := ⟨_, rfl⟩
        have hb7 : Below w3.heap.size w3 w7 := ((hB4.trans (hB5.mono hB4.size)).trans (hT6.below (Nat.le_refl _) (Nat.le_trans hB4.size hB5.size))).trans (hT7.below (by omega) (by omega))
        rw [← hgs] at h6 ⊢
        rw [← hgf] at h7 ⊢
        have HP7 := Lib.hid ((HP2.out.at_rd hT3 hR3).up hb7)
        have HF7 := Lib.hid h7
        have HS7 := Lib.hid (h6.touch hT7 (by omega))
        have HNEW := Lib.hid (show gs ≠ gf ∧ base ≤ gs ∧ base ≤ gf ∧ gr ≠ gs ∧ gr ≠ gf ∧ gk ≠ gs ∧ gk ≠ gf ∧ g ≠ gs ∧ g ≠ gf ∧ b ≠ gf ∧ w.heap.size ≤ gf by
          have h8 := (HP2.out.at_rd hT3 hR3)
          have h9 := h8.flt.lt
          have h10 := h8.pk.blk.lt
          have h11 := h8.rd.lt
          have h12 := h8.lt.2
          have h13 := h8.lt.1
          have h14 := h8.sz.1
          exact ⟨by omega, by omega, by omega, by omega, by omega, by omega, by omega, by omega, by omega, by omega, by omega⟩)
        have y1 : w7.cell? ⟨gf, 1, none⟩ = some (.int .i64 (er)) := HF7.out.cell 1 (by decide)
        clear hT3 hR3 h4 hB4 hs4 h5 hB5 hs5 h6 hT6 hs6 h56 h7 hT7 hs7 hgs hgf hb7 HP2 HSE
        go_wp2_with (first
          | (refine wpList_load_all rfl 94 _ rfl gf rfl 94 2 (ftF ((n - lf : Nat)) (er)) _ HF7.out Tryd.underlying94 rfl sizeFt ?_)
          | (refine wpList_store_all rfl 94 _ _ rfl gr 94 2 _ (ftF ((n - lf : Nat)) (er)) rfl rfl HP7.out.flt sizeFt (ftF_one _ _) ?_; intro w9 h9 hT9 hs9))
        refine bodyPost_ret (result_seg rfl _ _ gr _ 2 _ _ rfl h9 Tryd.underlying94 rfl sizeFt) rfl ?_
        refine ⟨HP7.out.below.trans (hT9.below HP7.out.ne.2.2.2.2.2.2.2 HP7.out.lt.2), fun j hj a c => (hT9.block j (Nat.lt_of_lt_of_le hj HP7.out.sz.1) (by have := HP7.out.sz.2; omega)).trans (HP7.out.far j hj a c), ?_⟩
        rw [HE2.out]
        exact ⟨rfl, _, HP7.out.pk.blk.touch hT9 HP7.out.ne.2.2.1⟩
      | ok x =>
        obtain ⟨⟨kd, c⟩, t⟩ := x
        rw [hs] at HE HSE
        obtain ⟨g1, g2, g3, g4, g5, g6, g7⟩ := secR_good (HY.out.drop p) hs
        obtain ⟨q1, q2, q3⟩ := sec_parts (by rw [HL.out]; exact hp) g1 g2
        rw [HL.out] at q1 q3
        have hkd := follows_rng hl0 g3
        have HC := Lib.hid q2
        have HT := Lib.hid q3
        have HUN := Lib.hid g4
        have HCY := Lib.hid g5
        have HN := Lib.hid q1
        have HKD := Lib.hid hkd
        have HE2 := Lib.hid (show (match into k kd c (c.length + t.length) with
          | .error e => .error e
          | .ok k' => if t.length < (B.drop p).length then packR kd k' t else .error (0, 0)) = res from HE.out)
        have HLT := Lib.hid g7
        clear hs g1 g2 g3 g4 g5 g6 g7 q1 q2 q3 hkd HE
        go_upto_region 3 with (first
          | (go_at_call 79; refine HSE.out.mono ?_; rintro e w3 ⟨hT3, rfl, hR3⟩)
          | (refine wpList_alloc_seg rfl 135 rfl 3 (secF Sc.zero) zeroSec ?_; intro w4 h4 hB4 hs4)
          | (refine wpList_alloc_seg rfl 94 rfl 2 (ftF 0 0) zeroFt ?_; intro w5 h5 hB5 hs5)
          | (refine wpList_store_all rfl 135 _ _ rfl w3.heap.size 135 3 _ (secF ⟨kd, (p + 4 : Nat), some ⟨b, off + (p + 4), none⟩, c.length, c.length, c⟩) rfl rfl (h4.up hB5) sizeSec (secF_one _) ?_; intro w6 h6 hT6 hs6; have h56 := h5.touch hT6 (by omega))
          | (refine wpList_store_all rfl 94 _ _ rfl w4.heap.size 94 2 _ (ftF (0) (0)) rfl rfl h56 sizeFt (ftF_one _ _) ?_; intro w7 h7 hT7 hs7))
        obtain ⟨gs, hgs⟩ : ∃ gs, gs = w3.heap.size := ⟨_, rfl⟩
        obtain ⟨gf, hgf⟩ : ∃ gf, gf = w4.heap.size := ⟨_, rfl⟩
        have hb7 : Below w3.heap.size w3 w7 := ((hB4.trans (hB5.mono hB4.size)).trans (hT6.below (Nat.le_refl _) (Nat.le_trans hB4.size hB5.size))).trans (hT7.below (by omega) (by omega))
        rw [← hgs] at h6 ⊢
        rw [← hgf] at h7 ⊢
        have HP7 := Lib.hid ((HP2.out.at_rd hT3 hR3).up hb7)
        have HF7 := Lib.hid h7
        have HS7 := Lib.hid (h6.touch hT7 (by omega))
        have HNEW := Lib.hid (show gs ≠ gf ∧ base ≤ gs ∧ base ≤ gf ∧ gr ≠ gs ∧ gr ≠ gf ∧ gk ≠ gs ∧ gk ≠ gf ∧ g ≠ gs ∧ g ≠ gf ∧ b ≠ gf ∧ w.heap.size ≤ gf by
          have h8 := (HP2.out.at_rd hT3 hR3)
          have h9 := h8.flt.lt
          have h10 := h8.pk.blk.lt
          have h11 := h8.rd.lt
          have h12 := h8.lt.2
          have h13 := h8.lt.1
          have h14 := h8.sz.1
          exact ⟨by omega, by omega, by omega, by omega, by omega, by omega, by omega, by omega, by omega, by omega, by omega⟩)
        have y1 : w7.cell? ⟨gf, 1, none⟩ = some (.int .i64 (0)) := HF7.out.cell 1 (by decide)
        clear hT3 hR3 h4 hB4 hs4 h5 hB5 hs5 h6 hT6 hs6 h56 h7 hT7 hs7 hgs hgf hb7 HP2 HSE
        obtain ⟨m, hm⟩ : ∃ m, m = c.length := ⟨_, rfl⟩
        rw [← hm] at HS7
        have HM := Lib.hid hm
        clear hm
        have HIN := Lib.hid (into_any w7 gk base n b (off + (p + 4)) (m + t.length) m k vd vt vc kd (p + 4 : Nat) c HP7.out.pk HM.out.symm HKD.out (by rw [HM.out]; exact HUN.out) HCY.out (bytes_part (p := p + 4) (m := m) HP7.out.byt (by rw [HM.out]; exact HC.out) (by have := HN.out; have := HL.out; have := HM.out; omega)) HP7.out.ne.2.2.2.2.1 HP7.out.lt.1 (by have := HN.out; have := HM.out; omega) ⟨by omega, by have := HN.out; have := HM.out; omega⟩ (by omega) HP7.out.lt.2)
        rw [← HM.out] at HE2
        have HFT0 := HF7
        obtain ⟨Y, hY⟩ : ∃ Y, Y = secF ⟨kd, (p + 4 : Nat), some ⟨b, off + (p + 4), none⟩, m, m, c⟩ := ⟨_, rfl⟩
        rw [← hY] at HS7
        have HYY := Lib.hid hY
        clear hY
        go_upto_region 5 with (first
          | (refine wpList_load_all rfl 135 _ rfl gs rfl 135 3 Y _ HS7.out Tryd.underlying135 rfl sizeSec ?_)
          | (go_at_call 80; rw [HYY.out]; refine HIN.out.mono ?_; rintro e w8 ⟨hT8, h8⟩; obtain ⟨fa, fe, rfl⟩ := h8.form; rw [← HYY.out])
          | (refine wpList_store_all rfl 94 _ _ rfl gf 94 2 _ (ftF fa fe) rfl rfl (HF7.out.touch hT8 (fun e => HNEW.out.2.2.2.2.2.2.1 e.symm)) sizeFt (ftF_one _ _) ?_; intro w10 h10 hT10 hs10))
        have HF10 := Lib.hid h10
        have HNW := HNEW.out
        have HT8 := Lib.hid hT8
        have HT10 := Lib.hid hT10
        have hgf8 := HF7.out.touch hT8 (fun e => HNW.2.2.2.2.2.2.1 e.symm)
        have y5 : w10.cell? ⟨gf, 1, none⟩ = some (.int .i64 fe) := h10.cell 1 (by decide)
        clear y1 HIN hs10 hT8 hT10
        cases hi : into k kd c (m + t.length) with
        | error x =>
          obtain ⟨lf, er⟩ := x
          rw [hi] at h8 HE2
          have hnz := (into_err hi).1
          obtain ⟨he, f8, hf8⟩ := h8
          obtain ⟨e1, e2⟩ := ft_inj he
          have HE3 := Lib.hid (show res = .error (lf, er) from HE2.out.symm)
          have HFA := Lib.hid e1
          have HFE := Lib.hid e2
          have tn : (fe != 0) = true := by rw [bne_iff_ne, e2]; exact hnz
          have HFL := Lib.hid ((HP7.out.flt.touch HT8.out (fun e => HP7.out.ne.2.2.1 e.symm)).touch HT10.out HNW.2.2.2.2.1)
          have HGK := Lib.hid (hf8.touch HT10.out HNW.2.2.2.2.2.2.1)
          have HBW := Lib.hid ((HP7.out.below.trans (HT8.out.below HP7.out.ne.2.2.2.2.2.2.1 HP7.out.lt.2)).trans (HT10.out.below HNW.2.2.1 (Nat.le_trans HP7.out.lt.2 HT8.out.size)))
          have HFAR := Lib.hid (show ∀ j, j < w.heap.size → j ≠ g → j ≠ gk → w10.heap[j]? = w.heap[j]? from fun j hj a c => (HT10.out.block j (Nat.lt_of_lt_of_le hj (Nat.le_trans HP7.out.sz.1 HT8.out.size)) (by have := HNW.2.2.2.2.2.2.2.2.2.2; omega)).trans ((HT8.out.block j (Nat.lt_of_lt_of_le hj HP7.out.sz.1) c).trans (HP7.out.far j hj a c)))
          have HSZ2 := Lib.hid (show w.heap.size ≤ w10.heap.size from Nat.le_trans HP7.out.sz.1 (Nat.le_trans HT8.out.size HT10.out.size))
          have HSZ := Lib.hid (Nat.le_trans (Nat.le_trans HP7.out.lt.2 HT8.out.size) HT10.out.size)
          clear he hf8 e1 e2 hnz hi HE2 hgf8 h10
          go_wp2_with (first
            | (refine wpList_load_all rfl 94 _ rfl gf rfl 94 2 (ftF fa fe) _ HF10.out Tryd.underlying94 rfl sizeFt ?_)
            | (refine wpList_store_all rfl 94 _ _ rfl gr 94 2 _ (ftF fa fe) rfl rfl HFL.out sizeFt (ftF_one _ _) ?_; intro w11 h11 hT11 hs11))
          refine bodyPost_ret (result_seg rfl _ _ gr _ 2 _ _ rfl h11 Tryd.underlying94 rfl sizeFt) rfl ?_
          refine ⟨HBW.out.trans (hT11.below HP7.out.ne.2.2.2.2.2.2.2 HSZ.out), fun j hj a c => (hT11.block j (Nat.lt_of_lt_of_le hj HSZ2.out) (by have := HP7.out.sz.2; omega)).trans (HFAR.out j hj a c), ?_⟩
          rw [HE3.out, HFA.out, HFE.out]
          exact ⟨rfl, _, HGK.out.touch hT11 HP7.out.ne.2.2.1⟩
        | ok k2 =>
          rw [hi] at h8 HE2
          obtain ⟨he, vd2, vt2, vc2, hk2⟩ := h8
          obtain ⟨e1, e2⟩ := ft_inj he
          have tn : (fe != 0) = false := by rw [e2]; rfl
          have HE3 := Lib.hid (show packR kd k2 (B.drop (n - t.length)) = res by
            have h5 := HE2.out
            simp only [if_pos HLT.out] at h5
            rw [← HT.out]; exact h5)
          have HP10 := Lib.hid ((HP7.out.at_pk HT8.out hk2).at_tmp HT10.out hgf8 (by decide) (by decide) (by decide) HNW.2.2.2.2.2.2.2.2.1 HNW.2.2.2.2.1 HNW.2.2.2.2.2.2.2.2.2.1 HNW.2.2.1 HNW.2.2.2.2.2.2.2.2.2.2)
          have HAT2 := Lib.hid (show atOf g w10 = ((n - t.length : Nat) : Int) by
            unfold atOf
            rw [show w10.cell? ⟨g, 1, none⟩ = some (.int .i64 ((n - t.length : Nat) : Int)) from HP10.out.rd.cell 1 (by decide)]; rfl)
          clear he e1 e2 hi HE2 hk2 hgf8 h10
          go_wp2_with fail
          go_roundw
          case rel => exact ⟨n - t.length, kd, k2, vd2, vt2, vc2, Nat.sub_le _ _, by have := HKD.out; omega, HE3, HP10.out⟩
          case measure => rw [HAT2.out, HAT.out]; have := HN.out; omega
    · obtain rfl : p = n := by omega
      have HE2 := Lib.hid (show (if last = 0 then .error (0, 120) else .ok k) = res by rw [← HE.out, List.drop_of_length_le (by rw [HL.out]; exact Nat.le_refl _), packR_end])
      have x2 : wr.cell? ⟨g, 2, none⟩ = some (.int .i64 last) := HP.out.rd.cell 2 (by decide)
      clear hlt HE
      go_upto_region 1 with fail
      go_quiet (fail)
      obtain ⟨w2, hw2⟩ : ∃ u, u = wr.drewN nq := ⟨_, rfl⟩
      have HP2 := Lib.hid (show PS w g gk gr base b off p B p last k vd vt vc w2 by rw [hw2]; exact HP.out.drewN nq)
      rw [← hw2]
      clear hw2 x0 x1 x2 HP
      have x2 : w2.cell? ⟨g, 2, none⟩ = some (.int .i64 last) := HP2.out.rd.cell 2 (by decide)
      by_cases hl : last = 0
      · have tl : (last == 0) = true := by rw [hl]; rfl
        have HE3 := Lib.hid (show res = .error (0, 120) by rw [← HE2.out, if_pos hl])
        have HRD := HP2.out.rd
        clear hl HE2
        go_wp2_with (first
          | (go_at_call 81; refine (short_any w2 g _ p p last HRD).mono ?_; rintro e w3 ⟨rfl, hB3⟩)
          | (refine wpList_store_all rfl 94 _ _ rfl gr 94 2 _ (ftF p 120) rfl rfl (HP2.out.up hB3).flt sizeFt (ftF_one _ _) ?_; intro w9 h9 hT9 hs9))
        refine bodyPost_ret (result_seg rfl _ _ gr _ 2 _ _ rfl h9 Tryd.underlying94 rfl sizeFt) rfl ?_
        have hP3 := HP2.out.up hB3
        refine ⟨hP3.below.trans (hT9.below hP3.ne.2.2.2.2.2.2.2 hP3.lt.2), fun j hj a c => (hT9.block j (Nat.lt_of_lt_of_le hj hP3.sz.1) (by have := hP3.sz.2; omega)).trans (hP3.far j hj a c), ?_⟩
        rw [HE3.out]
        exact ⟨rfl, _, hP3.pk.blk.touch hT9 hP3.ne.2.2.1⟩
      · have tl : (last == 0) = false := by rw [beq_eq_false_iff_ne]; exact hl
        have HE3 := Lib.hid (show res = .ok k by rw [← HE2.out, if_neg hl])
        clear hl HE2
        go_wp2_with (refine wpList_store_all rfl 94 _ _ rfl gr 94 2 _ (ftF 0 0) rfl rfl HP2.out.flt sizeFt (ftF_one _ _) ?_; intro w9 h9 hT9 hs9)
        refine bodyPost_ret (result_seg rfl _ _ gr _ 2 _ _ rfl h9 Tryd.underlying94 rfl sizeFt) rfl ?_
        refine ⟨HP2.out.below.trans (hT9.below HP2.out.ne.2.2.2.2.2.2.2 HP2.out.lt.2), fun j hj a c => (hT9.block j (Nat.lt_of_lt_of_le hj HP2.out.sz.1) (by have := HP2.out.sz.2; omega)).trans (HP2.out.far j hj a c), ?_⟩
        rw [HE3.out]
        exact ⟨rfl, vd, vt, vc, HP2.out.pk.touch hT9 HP2.out.flt (by decide) (by decide) (by decide)⟩
end Go.Proofs.YtlodoinmippebaaDoor.Pak
/- Package pack: what stands ahead of the sum. -/
namespace Go.Proofs.YtlodoinmippebaaDoor.Pak
open Go.ChangeShapes Go.WideShapes Go.ChangeAt Go.RowKit
set_option linter.unusedVariables false
set_option linter.unusedSimpArgs false
set_option maxRecDepth 100000
theorem conv_zero (w : World) (p : Option Addr) (c : Nat) : (convert 22 9 (.slice p 0 c)).run Tryd.prog w = .ok (.string (strOfNums [])) w := by
  cases p with
  | none => exact run_convert_bytes_nil w 22 5 Tryd.underlying22 Tryd.underlying5 0 c 9 Tryd.underlying9
  | some a =>
    rw [run_convert_bytes_string w 22 9 5 _ 0 c Tryd.underlying22 Tryd.underlying5 Tryd.underlying9]
    simp [Conv.bytesToString, loadCells]
    rfl
theorem conv_any (w : World) (A : Option Addr) (n c : Nat) (L : List Int) (hL : L.length = n) (h : BytesAt w A L) :
    (convert 22 9 (.slice A n c)).run Tryd.prog w = .ok (.string (strOfNums L)) w := by
  rcases Nat.eq_zero_or_pos n with h0 | h0
  · subst h0
    obtain rfl : L = [] := List.eq_nil_of_length_eq_zero hL
    exact conv_zero w A c
  · exact conv_at w A n c L hL h0 h
theorem byte_inj {x y : Int} (hx : IsB x) (hy : IsB y) (h : UInt8.ofNat x.toNat = UInt8.ofNat y.toNat) : x = y := by
  unfold IsB at hx hy
  have h2 := congrArg UInt8.toNat h
  rw [UInt8.toNat_ofNat', UInt8.toNat_ofNat'] at h2
  omega
theorem bytes_inj : ∀ {L M : List Int}, Bytes L → Bytes M → L.map (fun n => UInt8.ofNat n.toNat) = M.map (fun n => UInt8.ofNat n.toNat) → L = M
  | [], [], _, _, _ => rfl
  | [], y :: t, _, _, h => by simp at h
  | x :: t, [], _, _, h => by simp at h
  | x :: s, y :: t, hL, hM, h => by
    rw [List.map_cons, List.map_cons, List.cons.injEq] at h
    rw [byte_inj (hL x (by simp)) (hM y (by simp)) h.1, bytes_inj (fun z hz => hL z (by simp [hz])) (fun z hz => hM z (by simp [hz])) h.2]
theorem str_inj {L M : List Int} (hL : Bytes L) (hM : Bytes M) (h : strOfNums L = strOfNums M) : L = M := by
  have h2 := congrArg (fun s => s.data.toList) h
  simp only [strOfNums_data] at h2
  exact bytes_inj hL hM h2
theorem str_eq (L M : List Int) (hL : Bytes L) (hM : Bytes M) : ((strOfNums L).toList == (strOfNums M).toList) = decide (L = M) := by
  by_cases h : L = M
  · subst h
    rw [decide_eq_true rfl]; simp
  · rw [decide_eq_false h, beq_eq_false_iff_ne]
    intro e
    rw [ByteArray.toList_eq, ByteArray.toList_eq] at e
    exact h (str_inj hL hM (ByteArray.ext (Array.toList_inj.1 e)))
theorem sameBytes_any (w : World) (A : Option Addr) (n c : Nat) (A' : Option Addr) (n' c' : Nat) (L M : List Int) (hL : L.length = n) (hM : M.length = n') (h : BytesAt w A L) (h' : BytesAt w A' M) (bL : Bytes L) (bM : Bytes M) :
    Calls Tryd.prog 29 #[.slice A n c, .slice A' n' c'] w fun e w' => e = .returned (.bool (decide (L = M))) ∧ w = w' := by
  have H1 := conv_any w A n c L hL h
  have H2 := conv_any w A' n' c' M hM h'
  have HE := Lib.hid (str_eq L M bL bM)
  clear h h' hL hM bL bM
  generalize strOfNums L = S at *
  generalize strOfNums M = T at *
  go_enter Tryd.func29, Tryd.ntmps29
  go_wp2
  go_ret
  exact ⟨by rw [← HE.out]; rfl, rfl⟩
theorem mark_lit : (strOfNums mark).toList = [87, 80, 75, 49] := by kernel_rfl
theorem bytes_front {w : World} {A : Option Addr} {L : List Int} (h : BytesAt w A L) (m : Nat) : BytesAt w A (L.take m) := fun hp => by
  rw [List.length_take] at hp
  obtain ⟨b, off, e, hl, hc⟩ := h (by omega)
  refine ⟨b, off, e, hl, fun i hi => ?_⟩
  rw [List.length_take] at hi
  rw [hc i (by omega), List.getElem?_take, if_pos (by omega)]
/-- what is wrong with bytes ahead of their sections -/
def betE (L : List Int) : Option Fl :=
  if 131072 < L.length then some (0, 2) else if L.length < 8 then some (L.length, 120) else if L.take 4 ≠ mark then some (0, 120) else
  if num (L.drop (L.length - 4)) ≠ sumN (L.take (L.length - 4)) then some (L.length - 4, 124) else none
theorem decP_bet (L : List Int) : decP L = match betE L with
  | some e => .error e
  | none => match packR 0 Pk.none ((L.take (L.length - 4)).drop 4) with
    | .ok k => .ok k
    | .error (lf, er) => .error (L.length - 4 - lf, er) := by
  unfold decP betE
  split
  · rfl
  split
  · rfl
  split
  · rfl
  split
  · rfl
  · rfl
def BetRes (A : Option Addr) (n : Nat) (r : Option Fl) (e : Ending) : Prop := match r with
  | some (a, er) => e = .returned (.tuple #[.slice none 0 0, .agg (arr 2 (ftF a er))])
  | none => e = .returned (.tuple #[.slice A (n - 4) (n - 4), .agg (arr 2 (ftF 0 0))])
set_option maxHeartbeats 4000000 in
theorem between_any (w : World) (A : Option Addr) (n c : Nat) (L : List Int) (hS : Sl w A n c L) (hY : Bytes L) (hn : n ≤ 1152921504606846976) :
    Calls Tryd.prog 51 #[.slice A n c] w fun e w' => Below w.heap.size w w' ∧ BetRes A n (betE L) e := by
  obtain ⟨r, hr⟩ : ∃ r, r = betE L := ⟨_, rfl⟩
  rw [← hr]
  have HR := Lib.hid hr
  have HL := hS.len
  have HS := Lib.hid hS
  have HY := Lib.hid hY
  have hcn := hS.cap
  clear hr hS hY
  go_enter Tryd.func51, Tryd.ntmps51
  go_upto_region 1 with (refine wpList_alloc_seg rfl 94 rfl 2 (ftF 0 0) zeroFt ?_; intro w1 h1 hB1 hs1)
  obtain ⟨gf, hgf⟩ : ∃ gf, gf = w.heap.size := ⟨_, rfl⟩
  have HGF := Lib.hid (show w.heap.size ≤ gf by omega)
  rw [← hgf] at h1 ⊢
  have HF := Lib.hid h1
  have HB := Lib.hid hB1
  have HS1 := Lib.hid (HS.out.up hB1)
  clear h1 hB1 hs1 hgf HS
  by_cases hbig : 131072 < n
  · have t1 : decide (131072 < (n : Int)) = true := decide_eq_true (by omega)
    have HE := Lib.hid (show r = some (0, 2) by rw [HR.out]; unfold betE; rw [if_pos (by rw [HL.out]; exact hbig)])
    clear hbig
    go_wp2_with (refine wpList_store_all rfl 94 _ _ rfl gf 94 2 _ (ftF (0) (2)) rfl rfl HF.out sizeFt (ftF_one _ _) ?_; intro w9 h9 hT9 hs9)
    refine bodyPost_ret (result_tc rfl _ _ _ gf _ 2 _ _ rfl rfl h9 Tryd.underlying94 rfl sizeFt) rfl ?_
    refine ⟨HB.out.trans (hT9.below HGF.out HB.out.size), ?_⟩
    rw [HE.out]
    exact rfl
  have t1 : decide (131072 < (n : Int)) = false := decide_eq_false (by omega)
  by_cases h8 : n < 8
  · have t8 : decide ((n : Int) < 8) = true := decide_eq_true (by omega)
    have HE := Lib.hid (show r = some (n, 120) by rw [HR.out]; unfold betE; rw [if_neg (by rw [HL.out]; exact hbig), if_pos (by rw [HL.out]; exact h8), HL.out])
    clear hbig h8
    go_wp2_with (refine wpList_store_all rfl 94 _ _ rfl gf 94 2 _ (ftF (n) (120)) rfl rfl HF.out sizeFt (ftF_one _ _) ?_; intro w9 h9 hT9 hs9)
    refine bodyPost_ret (result_tc rfl _ _ _ gf _ 2 _ _ rfl rfl h9 Tryd.underlying94 rfl sizeFt) rfl ?_
    refine ⟨HB.out.trans (hT9.below HGF.out HB.out.size), ?_⟩
    rw [HE.out]
    exact rfl
  have t8 : decide ((n : Int) < 8) = false := decide_eq_false (by omega)
  have HRB := Lib.hid (show betE L = (if L.take 4 ≠ mark then some (0, 120) else if num (L.drop (n - 4)) ≠ sumN (L.take (n - 4)) then some (n - 4, 124) else none) by
    unfold betE; rw [if_neg (by rw [HL.out]; exact hbig), if_neg (by rw [HL.out]; exact h8), HL.out])
  obtain ⟨q, hq⟩ : ∃ q : Nat, n = q + 4 := ⟨n - 4, by omega⟩
  have hqi : (n : Int) - 4 = q := by omega
  have hqn : n - 4 = q := by omega
  have hq4 : 4 ≤ q ∧ q ≤ 131068 := by omega
  obtain ⟨b, off, rfl, hbl, hcell⟩ := HS1.out.byt (by rw [HL.out]; omega)
  have hc4 : (4 : Int) ≤ c := by omega
  have HCV := Lib.hid (conv_any w1 (some ⟨b, off, none⟩) 4 c (L.take 4) (by rw [List.length_take, HL.out]; omega) (bytes_front HS1.out.byt 4))
  have HEQ := Lib.hid (str_eq (L.take 4) mark (HY.out.take 4) mark_bytes)
  rw [mark_lit] at HEQ
  rw [hqn] at HRB
  clear hbig h8 hcell
  by_cases hmk : L.take 4 = mark
  · rw [if_neg (by rw [hmk]; simp)] at HRB
    rw [decide_eq_true hmk] at HEQ
    have hcv := HCV.out
    have heq := HEQ.out
    generalize strOfNums (L.take 4) = S at *
    clear hmk HCV HEQ
    obtain ⟨s, hs⟩ : ∃ s, s = num (L.drop q) := ⟨_, rfl⟩
    obtain ⟨u, hu⟩ : ∃ u, u = sumN (L.take q) := ⟨_, rfl⟩
    have hul : u < 4294967296 := by rw [hu]; exact sumN_lt _
    rw [← hs, ← hu] at HRB
    have HNU := Lib.hid (fun (W : World) (m : Nat) (hW : W = w1.drewN m) => (number_any W (some ⟨b, off + q, none⟩) 4 (c - q) (L.drop q) (by rw [List.length_drop, HL.out]; omega) (by decide) (HY.out.drop q) (by
      rw [hW]
      exact bytes_part (p := q) (m := 4) HS1.out.byt (by rw [List.take_of_length_le (by rw [List.length_drop, HL.out]; omega)]) (by rw [HL.out]; omega))).mono fun _ _ h => (⟨h.1, h.2.symm⟩ : _ ∧ _))
    have HSU := Lib.hid (fun (W : World) (m : Nat) (hW : W = w1.drewN m) => (sum_any W (some ⟨b, off, none⟩) q c (L.take q) (by rw [List.length_take, HL.out]; omega) (by omega) (HY.out.take q) (by
      rw [hW]
      exact bytes_front HS1.out.byt q)).mono fun _ _ h => (⟨h.1, h.2.symm⟩ : _ ∧ _))
    rw [← hs] at HNU
    rw [← hu] at HSU
    have hcq : ¬ (c = q) := by omega
    have hqc : (q : Int) ≤ c := by omega
    have hqn2 : (q : Int) ≤ n := by omega
    have hsub : n - q = 4 := by omega
    clear hq hs hu
    go_upto_region 8 with fail
    clear heq hcv t1 t8
    by_cases hsu : s = (u : Int)
    · have tsu : (s != (u : Int)) = false := by rw [hsu]; simp
      rw [if_neg (by rw [hsu]; simp)] at HRB
      have HE := Lib.hid (show r = none from HR.out.trans HRB.out)
      clear hsu
      go_quiet (first | exact Calls.quiet_of_same (HNU.out _ _ rfl) | exact Calls.quiet_of_same (HSU.out _ _ rfl))
      obtain ⟨w2, hw2⟩ : ∃ x, x = w1.drewN nq := ⟨_, rfl⟩
      have HF2 := Lib.hid (show FB w2 gf 94 2 (ftF 0 0) by rw [hw2]; exact HF.out.drewN nq)
      have HB2 := Lib.hid (show Below w.heap.size w w2 by rw [hw2]; exact below_drewN HB.out nq)
      rw [← hw2]
      clear hw2 HF HB
      have HF := HF2
      have HB := HB2
      clear HF2 HB2 HNU HSU
      go_wp2_with (refine wpList_store_all rfl 94 _ _ rfl gf 94 2 _ (ftF (0) (0)) rfl rfl HF.out sizeFt (ftF_one _ _) ?_; intro w9 h9 hT9 hs9)
      refine bodyPost_ret (result_tc rfl _ _ _ gf _ 2 _ _ rfl rfl h9 Tryd.underlying94 rfl sizeFt) rfl ?_
      refine ⟨HB.out.trans (hT9.below HGF.out HB.out.size), ?_⟩
      rw [HE.out, show n = q + 4 by omega]
      exact rfl
    · have tsu : (s != (u : Int)) = true := by rw [bne_iff_ne]; exact hsu
      rw [if_pos hsu] at HRB
      have HE := Lib.hid (show r = some (q, 124) from HR.out.trans HRB.out)
      clear hsu
      go_quiet (first | exact Calls.quiet_of_same (HNU.out _ _ rfl) | exact Calls.quiet_of_same (HSU.out _ _ rfl))
      obtain ⟨w2, hw2⟩ : ∃ x, x = w1.drewN nq := ⟨_, rfl⟩
      have HF2 := Lib.hid (show FB w2 gf 94 2 (ftF 0 0) by rw [hw2]; exact HF.out.drewN nq)
      have HB2 := Lib.hid (show Below w.heap.size w w2 by rw [hw2]; exact below_drewN HB.out nq)
      rw [← hw2]
      clear hw2 HF HB
      have HF := HF2
      have HB := HB2
      clear HF2 HB2 HNU HSU
      go_wp2_with (refine wpList_store_all rfl 94 _ _ rfl gf 94 2 _ (ftF (q) (124)) rfl rfl HF.out sizeFt (ftF_one _ _) ?_; intro w9 h9 hT9 hs9)
      refine bodyPost_ret (result_tc rfl _ _ _ gf _ 2 _ _ rfl rfl h9 Tryd.underlying94 rfl sizeFt) rfl ?_
      refine ⟨HB.out.trans (hT9.below HGF.out HB.out.size), ?_⟩
      rw [HE.out]
      exact rfl
  · rw [if_pos hmk] at HRB
    have HE := Lib.hid (show r = some (0, 120) from HR.out.trans HRB.out)
    rw [decide_eq_false hmk] at HEQ
    have hcv := HCV.out
    have heq := HEQ.out
    generalize strOfNums (L.take 4) = S at *
    clear hmk HCV HEQ HRB hq hqn
    go_wp2_with (refine wpList_store_all rfl 94 _ _ rfl gf 94 2 _ (ftF (0) (120)) rfl rfl HF.out sizeFt (ftF_one _ _) ?_; intro w9 h9 hT9 hs9)
    refine bodyPost_ret (result_tc rfl _ _ _ gf _ 2 _ _ rfl rfl h9 Tryd.underlying94 rfl sizeFt) rfl ?_
    refine ⟨HB.out.trans (hT9.below HGF.out HB.out.size), ?_⟩
    rw [HE.out]
    exact rfl
end Go.Proofs.YtlodoinmippebaaDoor.Pak
/- Package pack: Decode. -/
namespace Go.Proofs.YtlodoinmippebaaDoor.Pak
open Go.ChangeShapes Go.WideShapes Go.ChangeAt Go.RowKit
set_option linter.unusedVariables false
set_option linter.unusedSimpArgs false
set_option maxRecDepth 100000
abbrev zeroPkF : Nat → Value := pkF 0 0 (.slice none 0 0) (.slice none 0 0) (.slice none 0 0)
theorem zeroPk : (Tryd.prog.info? 25).bind (fun i => i.zero.map Value.cells) = some (arr 5 zeroPkF) := by kernel_rfl
def DecRes (w w' : World) (r : Except Fl Pk) (e : Ending) : Prop := match r with
  | .ok k => ∃ vd vt vc, e = .returned (.tuple #[.agg (arr 5 (pkF k.lo k.hi vd vt vc)), .int .i64 0, .int .i64 0]) ∧ OwnB w' w.heap.size vd k.data ∧ OwnR 69 2 tabF w' w.heap.size vt k.tabs ∧ OwnB w' w.heap.size vc k.code
  | .error (a, er) => e = .returned (.tuple #[.agg (arr 5 zeroPkF), .int .i64 a, .int .i64 er])
structure DecS (w : World) (gk gt : Nat) (a er : Int) (W : World) : Prop where
  pk : ∃ f, FB W gk 25 5 f
  flt : FB W gt 94 2 (ftF a er)
  below : Below w.heap.size w W
  ne : gk ≠ gt ∧ w.heap.size ≤ gk
theorem DecS.drewN {w : World} {gk gt : Nat} {a er : Int} {W : World} (h : DecS w gk gt a er W) (m : Nat) : DecS w gk gt a er (W.drewN m) := ⟨h.pk.imp fun _ h1 => h1.drewN m, h.flt.drewN m, below_drewN h.below m, h.ne⟩
theorem pkF_one {lo hi : Int} {vd vt vc : Value} (h2 : vd.oneCell' = true) (h3 : vt.oneCell' = true) (h4 : vc.oneCell' = true) : ∀ q, q < 5 → (pkF lo hi vd vt vc q).oneCell' = true := fun q hq => by
  rcases (show q = 0 ∨ q = 1 ∨ q = 2 ∨ q = 3 ∨ q = 4 by omega) with rfl | rfl | rfl | rfl | rfl
  · rfl
  · rfl
  · exact h2
  · exact h3
  · exact h4
theorem IntoRes.nz {n gk base : Nat} {r : Except Fl Pk} {e : Ending} {w : World} (h : IntoRes n gk base r e w) {fa fe : Int} (he : e = .returned (.agg (arr 2 (ftF fa fe)))) : (∃ lf er, r = .error (lf, er) ∧ fa = (n - lf : Nat) ∧ fe = er ∧ ∃ f, FB w gk 25 5 f) ∨ (∃ k, r = .ok k ∧ fa = 0 ∧ fe = 0 ∧ ∃ vd vt vc, PkB w gk base k vd vt vc) := by
  subst he
  unfold IntoRes at h
  cases r with
  | error x =>
    obtain ⟨lf, er⟩ := x
    obtain ⟨h1, h2⟩ := h
    obtain ⟨e1, e2⟩ := ft_inj h1
    exact .inl ⟨lf, er, rfl, e1, e2, h2⟩
  | ok k =>
    obtain ⟨h1, h2⟩ := h
    obtain ⟨e1, e2⟩ := ft_inj h1
    exact .inr ⟨k, rfl, e1, e2, h2⟩
theorem ownT_form {w : World} {base : Nat} {v : Value} {l : List (Int × Int)} (h : OwnR 69 2 tabF w base v l) : v.oneCell' = true := by
  obtain ⟨A, m, c, e, _⟩ := h.form
  rw [e]; rfl
theorem ownB_one {w : World} {base : Nat} {v : Value} {L : List Int} (h : OwnB w base v L) : v.oneCell' = true := by
  obtain ⟨A, c, e, _⟩ := h.form
  rw [e]; rfl
abbrev rdF0 : Nat → Value
  | 0 => .slice none 0 0
  | 1 => .int .i64 0
  | _ => .int .i64 0
theorem zeroRd : (Tryd.prog.info? 98).bind (fun i => i.zero.map Value.cells) = some (arr 3 rdF0) := by kernel_rfl
theorem sizeRd : (Tryd.prog.info? 98).map (·.size) = some 3 := by kernel_rfl
theorem rdF_one (A : Option Addr) (n : Nat) (p last : Int) : ∀ q, q < 3 → (rdF A n p last q).oneCell' = true := fun q hq => by
  rcases (show q = 0 ∨ q = 1 ∨ q = 2 by omega) with rfl | rfl | rfl <;> rfl
theorem bet_none {L : List Int} (h : betE L = none) : 8 ≤ L.length ∧ L.length ≤ 131072 := by
  unfold betE at h
  by_cases h1 : 131072 < L.length
  · rw [if_pos h1] at h; cases h
  rw [if_neg h1] at h
  by_cases h2 : L.length < 8
  · rw [if_pos h2] at h; cases h
  omega
set_option maxHeartbeats 8000000 in
theorem decode_any (w : World) (A : Option Addr) (n c : Nat) (L : List Int) (hS : Sl w A n c L) (hY : Bytes L) (hn : n ≤ 1152921504606846976) :
    Calls Tryd.prog 26 #[.slice A n c] w fun e w' => Below w.heap.size w w' ∧ DecRes w w' (decP L) e := by
  obtain ⟨r, hr⟩ : ∃ r, r = decP L := ⟨_, rfl⟩
  rw [← hr]
  have HR := Lib.hid (show r = (match betE L with
    | some e => .error e
    | none => match packR 0 Pk.none ((L.take (L.length - 4)).drop 4) with
      | .ok k => .ok k
      | .error (lf, er) => .error (L.length - 4 - lf, er)) from hr.trans (decP_bet L))
  have HS := Lib.hid hS
  have HY := Lib.hid hY
  clear hr hS hY
  go_enter Tryd.func26, Tryd.ntmps26
  go_upto_region 1 with (refine wpList_alloc_seg rfl 25 rfl 5 zeroPkF zeroPk ?_; intro w1 h1 hB1 hs1)
  obtain ⟨gk, hgk⟩ : ∃ gk, gk = w.heap.size := ⟨_, rfl⟩
  rw [← hgk] at h1 ⊢
  have HK1 := Lib.hid h1
  have HB1 := Lib.hid hB1
  have HGK := Lib.hid (show w.heap.size ≤ gk ∧ gk < w1.heap.size ∧ gk = w.heap.size by omega)
  clear h1 hB1 hs1 hgk
  have HBT := Lib.hid (between_any w1 A n c L (HS.out.up HB1.out) HY.out hn)
  cases hb : betE L with
  | some x =>
    obtain ⟨a, er⟩ := x
    rw [hb] at HBT HR
    have HRE := Lib.hid (show r = .error (a, er) from HR.out)
    have hnz : er ≠ 0 := (decP_err HY.out (show decP L = .error (a, er) by rw [decP_bet, hb])).1
    have tn : (er != 0) = true := by rw [bne_iff_ne]; exact hnz
    clear hb hnz HR
    go_upto_region 2 with (first
      | (go_at_call 51; refine HBT.out.mono ?_; rintro e w2 ⟨hB2, rfl⟩)
      | (refine wpList_alloc_seg rfl 94 rfl 2 (ftF 0 0) zeroFt ?_; intro w3 h3 hB3 hs3)
      | (refine wpList_store_all rfl 94 _ _ rfl w2.heap.size 94 2 _ (ftF (a) (er)) rfl rfl h3 sizeFt (ftF_one _ _) ?_; intro w4 h4 hT4 hs4))
    obtain ⟨gt, hgt⟩ : ∃ gt, gt = w2.heap.size := ⟨_, rfl⟩
    have hb4 : Below w2.heap.size w2 w4 := hB3.trans (hT4.below (Nat.le_refl _) hB3.size)
    have hb24 : Below w1.heap.size w1 w4 := hB2.trans (hb4.mono hB2.size)
    rw [← hgt] at h4 ⊢
    have HNE := Lib.hid (show gk ≠ gt ∧ w.heap.size ≤ gk ∧ w.heap.size ≤ gt by have := hB2.size; have := HGK.out; exact ⟨by omega, by omega, by omega⟩)
    have HK4 := Lib.hid (HK1.out.up hb24)
    have HB4 := Lib.hid (HB1.out.trans (hb24.mono HB1.out.size))
    have HF4 := Lib.hid h4
    have HS4 := Lib.hid (HS.out.up (HB4.out))
    have y1 : w4.cell? ⟨gt, 1, none⟩ = some (.int .i64 (er)) := h4.cell 1 (by decide)
    have HZ4 := Lib.hid (show w.heap.size ≤ w4.heap.size from HB4.out.size)
    clear h3 hB3 hs3 h4 hT4 hs4 hgt hb4 hb24 hB2 HK1 HB1 HBT
    go_upto_region 3 with fail
    refine wp_region_held_drew (S := fun W => DecS w gk gt (a) (er) W) (by kernel_rfl) ((show DecS w gk gt (a) (er) w4 from ⟨⟨_, HK4.out⟩, HF4.out, HB4.out, ⟨HNE.out.1, HNE.out.2.1⟩⟩).drewN 1) (fun hHeld => ?_)
    refine wpAnyH_take (i := 0) (oi := { dst := some 16, op := Op.build 25 #[], type := 25, pos := "pack.go:26", after := #[], guard := none }) (v := .agg #[.int .i64 0, .int .i64 0, .slice none 0 0, .slice none 0 0, .slice none 0 0]) rfl (by kernel_rfl) (by kernel_rfl) (by kernel_rfl) (fun _ _ _ h => h) (Or.inl ⟨by rfl, ?_⟩) (by assumption) ?_
    · intro w hSw
      go_simp
    try simp only [Act.put, List.setIfInBounds_toArray, List.set_cons_zero, List.set_cons_succ]
    refine wpAnyH_take (i := 1) (oi := { dst := some 17, op := Op.fieldAddr 94 (Operand.tmp 6) 0, type := 0, pos := "pack.go:26", after := #[{ on := 5, ground := Ground.gcOnly Departure.lateStores }], guard := none }) (v := .pointer (some ⟨gt, 0, none⟩)) rfl (by kernel_rfl) (by kernel_rfl) (by kernel_rfl) (fun _ _ _ h => h) (Or.inl ⟨by rfl, ?_⟩) (by assumption) ?_
    · intro w hSw
      go_simp
    try simp only [Act.put, List.setIfInBounds_toArray, List.set_cons_zero, List.set_cons_succ]
    refine wpAnyH_take (i := 2) (oi := { dst := some 18, op := Op.load 3 (Operand.tmp 17), type := 3, pos := "pack.go:26", after := #[{ on := 1, ground := Ground.data }, { on := 5, ground := Ground.gcOnly Departure.lateStores }], guard := none }) (v := .int .i64 (a)) rfl (by kernel_rfl) (by kernel_rfl) (by kernel_rfl) (fun _ _ _ h => h) (Or.inl ⟨by rfl, ?_⟩) (by assumption) ?_
    · intro w hSw
      have q0 : w.cell? ⟨gt, 0, none⟩ = some (.int .i64 (a)) := hSw.flt.cell 0 (by decide)
      go_simp
    try simp only [Act.put, List.setIfInBounds_toArray, List.set_cons_zero, List.set_cons_succ]
    refine wpAnyH_take (i := 3) (oi := { dst := some 19, op := Op.fieldAddr 94 (Operand.tmp 6) 1, type := 0, pos := "pack.go:26", after := #[{ on := 6, ground := Ground.gcOnly Departure.lateStores }], guard := none }) (v := .pointer (some ⟨gt, 1, none⟩)) rfl (by kernel_rfl) (by kernel_rfl) (by kernel_rfl) (fun _ _ _ h => h) (Or.inl ⟨by rfl, ?_⟩) (by assumption) ?_
    · intro w hSw
      go_simp
    try simp only [Act.put, List.setIfInBounds_toArray, List.set_cons_zero, List.set_cons_succ]
    refine wpAnyH_take (i := 4) (oi := { dst := some 20, op := Op.load 34 (Operand.tmp 19), type := 34, pos := "pack.go:26", after := #[{ on := 3, ground := Ground.data }, { on := 6, ground := Ground.gcOnly Departure.lateStores }], guard := none }) (v := .int .i64 (er)) rfl (by kernel_rfl) (by kernel_rfl) (by kernel_rfl) (fun _ _ _ h => h) (Or.inl ⟨by rfl, ?_⟩) (by assumption) ?_
    · intro w hSw
      have q0 : w.cell? ⟨gt, 1, none⟩ = some (.int .i64 (er)) := hSw.flt.cell 1 (by decide)
      go_simp
    try simp only [Act.put, List.setIfInBounds_toArray, List.set_cons_zero, List.set_cons_succ]
    refine wpAnyH_ready (rs := [5]) (by kernel_rfl) (by simp) ?_
    refine AllReadyH.cons (o := { dst := none, op := Op.store 25 (Operand.tmp 2) (Operand.tmp 16), type := 0, pos := "pack.go:26", after := #[{ on := 0, ground := Ground.data }, { on := 0, ground := Ground.phase }, { on := 1, ground := Ground.textOnly Departure.lateStores }, { on := 2, ground := Ground.textOnly Departure.lateStores }, { on := 3, ground := Ground.textOnly Departure.lateStores }, { on := 4, ground := Ground.textOnly Departure.lateStores }], guard := none }) rfl ?_ ?_
    rotate_left
    · exact AllReadyH.nil
    intro K hK
    obtain ⟨fo, hfo⟩ := hHeld.pk
    refine step_store_seg (by rfl) 25 _ _ rfl gk 0 25 5 5 fo zeroPkF rfl rfl hfo (by omega) sizePk (pkF_one rfl rfl rfl) ?_
    intro w6 h6 hT6 hs6
    have H6 := Lib.hid (show FB w6 gk 25 5 zeroPkF from h6.congr fun q hq => by unfold updR; rw [if_pos (by omega), Nat.sub_zero])
    have HS6 := Lib.hid (show DecS w gk gt (a) (er) w6 from ⟨⟨_, H6.out⟩, hHeld.flt.touch hT6 (fun e => hHeld.ne.1 e.symm), hHeld.below.trans (hT6.below hHeld.ne.2 hHeld.below.size), hHeld.ne⟩)
    clear h6 hT6 hs6 hHeld hfo
    refine hK.out _ _ HS6.out (fun hHeld => ?_)
    clear hK K
    try simp only [Act.put, List.setIfInBounds_toArray, List.set_cons_zero, List.set_cons_succ]
    refine wpAnyH_take (i := 6) (oi := { dst := some 3, op := Op.assign (Operand.tmp 18), type := 3, pos := "pack.go:26", after := #[{ on := 2, ground := Ground.data }, { on := 5, ground := Ground.chain }, { on := 0, ground := Ground.phase }, { on := 1, ground := Ground.phase }, { on := 2, ground := Ground.phase }, { on := 3, ground := Ground.textOnly Departure.lateStores }, { on := 4, ground := Ground.textOnly Departure.lateStores }, { on := 5, ground := Ground.phase }], guard := none }) (v := .int .i64 (a)) rfl (by kernel_rfl) (by kernel_rfl) (by kernel_rfl) (fun _ _ _ h => h) (Or.inl ⟨by rfl, ?_⟩) (by assumption) ?_
    · intro w hSw
      go_simp
    try simp only [Act.put, List.setIfInBounds_toArray, List.set_cons_zero, List.set_cons_succ]
    refine wpAnyH_take (i := 7) (oi := { dst := some 4, op := Op.assign (Operand.tmp 20), type := 34, pos := "pack.go:26", after := #[{ on := 4, ground := Ground.data }, { on := 6, ground := Ground.chain }, { on := 0, ground := Ground.phase }, { on := 1, ground := Ground.phase }, { on := 2, ground := Ground.phase }, { on := 3, ground := Ground.phase }, { on := 4, ground := Ground.phase }, { on := 5, ground := Ground.phase }, { on := 6, ground := Ground.phase }], guard := none }) (v := .int .i64 (er)) rfl (by kernel_rfl) (by kernel_rfl) (by kernel_rfl) (fun _ _ _ h => h) (Or.inl ⟨by rfl, ?_⟩) (by assumption) ?_
    · intro w hSw
      go_simp
    try simp only [Act.put, List.setIfInBounds_toArray, List.set_cons_zero, List.set_cons_succ]
    clear hHeld
    refine wpAnyH_done (by kernel_rfl) ?_ _
    go_wp2_with fail
    refine bodyPost_ret (result_ctt rfl _ _ _ _ gk _ 5 _ _ rfl H6.out Tryd.underlying25 rfl sizePk rfl rfl) rfl ⟨HS6.out.below, ?_⟩
    rw [HRE.out]
    exact rfl
  | none =>
    rw [hb] at HBT HR
    have HRE := Lib.hid (show r = (match packR 0 Pk.none ((L.take (L.length - 4)).drop 4) with
      | .ok k => .ok k
      | .error (lf, er) => .error (L.length - 4 - lf, er)) from HR.out)
    obtain ⟨hl8, hlb⟩ := bet_none hb
    rw [HS.out.len.out] at hl8 hlb
    clear hb HR
    go_upto_region 2 with (first
      | (go_at_call 51; refine HBT.out.mono ?_; rintro e w2 ⟨hB2, rfl⟩)
      | (refine wpList_alloc_seg rfl 94 rfl 2 (ftF 0 0) zeroFt ?_; intro w3 h3 hB3 hs3)
      | (refine wpList_store_all rfl 94 _ _ rfl w2.heap.size 94 2 _ (ftF (0) (0)) rfl rfl h3 sizeFt (ftF_one _ _) ?_; intro w4 h4 hT4 hs4))
    obtain ⟨gt, hgt⟩ : ∃ gt, gt = w2.heap.size := ⟨_, rfl⟩
    have hb4 : Below w2.heap.size w2 w4 := hB3.trans (hT4.below (Nat.le_refl _) hB3.size)
    have hb24 : Below w1.heap.size w1 w4 := hB2.trans (hb4.mono hB2.size)
    rw [← hgt] at h4 ⊢
    have HNE := Lib.hid (show gk ≠ gt ∧ w.heap.size ≤ gk ∧ w.heap.size ≤ gt by have := hB2.size; have := HGK.out; exact ⟨by omega, by omega, by omega⟩)
    have HK4 := Lib.hid (HK1.out.up hb24)
    have HB4 := Lib.hid (HB1.out.trans (hb24.mono HB1.out.size))
    have HF4 := Lib.hid h4
    have HS4 := Lib.hid (HS.out.up (HB4.out))
    have y1 : w4.cell? ⟨gt, 1, none⟩ = some (.int .i64 (0)) := h4.cell 1 (by decide)
    have HZ4 := Lib.hid (show w.heap.size ≤ w4.heap.size from HB4.out.size)
    clear h3 hB3 hs3 h4 hT4 hs4 hgt hb4 hb24 hB2 HK1 HB1 HBT
    obtain ⟨q, hq⟩ : ∃ q : Nat, q = n - 4 := ⟨_, rfl⟩
    obtain ⟨b, off, hA, hbl, hcell⟩ := HS.out.byt (by rw [HS.out.len.out]; omega)
    subst hA
    rw [← hq]
    obtain ⟨B, hB⟩ : ∃ B, B = L.take (L.length - 4) := ⟨_, rfl⟩
    rw [← hB] at HRE
    have HBL := Lib.hid (show B.length = q by rw [hB, List.length_take, HS.out.len.out]; omega)
    have HBY := Lib.hid (show Bytes B by rw [hB]; exact HY.out.take _)
    have HBA := Lib.hid (show BytesAt w4 (some ⟨b, off, none⟩) B by rw [hB]; exact bytes_front HS4.out.byt _)
    have hq4 : 4 ≤ q ∧ q ≤ 131072 := by omega
    have HQ := Lib.hid (show L.length - 4 = q by rw [HS.out.len.out]; omega)
    clear hcell hB hq hl8 hlb
    go_upto_region 5 with (first
      | (refine wpList_alloc_seg rfl 98 rfl 3 (rdF0) zeroRd ?_; intro w5 h5 hB5 hs5)
      | (refine wpList_store_all rfl 98 _ _ rfl w4.heap.size 98 3 _ (rdF (some ⟨b, off, none⟩) q (4 : Nat) 0) rfl rfl h5 sizeRd (rdF_one _ _ _ _) ?_; intro w6 h6 hT6 hs6))
    obtain ⟨g, hg⟩ : ∃ g, g = w4.heap.size := ⟨_, rfl⟩
    have hb6 : Below w4.heap.size w4 w6 := hB5.trans (hT6.below (Nat.le_refl _) hB5.size)
    rw [← hg] at h6 ⊢
    have HK6 := Lib.hid (HK4.out.up hb6)
    have HF6 := Lib.hid (HF4.out.up hb6)
    have HB6 := Lib.hid (HB4.out.trans (hb6.mono HB4.out.size))
    have HSZ6 := Lib.hid (show w.heap.size ≤ w6.heap.size from HB6.out.size)
    have HGN := Lib.hid (show g ≠ gk ∧ g ≠ gt ∧ w.heap.size ≤ g by have h1 := HK4.out.lt; have h2 := HF4.out.lt; have h3 := HB4.out.size; exact ⟨by omega, by omega, by omega⟩)
    have HPM := Lib.hid (packM_any w6 g gk w.heap.size b off q 4 0 Pk.none (.slice none 0 0) (.slice none 0 0) (.slice none 0 0) B h6 ⟨HK6.out, OwnB.nil _ _, OwnR.nil _ _ _ _ _, OwnB.nil _ _⟩ HBL.out (by omega) (by omega) HBY.out (HBA.out.below hb6) (Int.le_refl _) ⟨HGN.out.1, by have := HGN.out.2.2; omega, by have := HNE.out; omega, HGN.out.2.2, HNE.out.2.1⟩ (Nat.lt_of_lt_of_le hbl HSZ6.out) HSZ6.out)
    clear h5 hB5 hs5 h6 hT6 hs6 hg hb6 HK4 HF4 HB4 HS4 HZ4 y1 HBA
    have HFL6 := Lib.hid HF6.out.lt
    go_upto_region 6 with (first
      | (go_at_call 52; refine HPM.out.mono ?_; rintro e w7 ⟨hB7, hfar, hI⟩; obtain ⟨fa, fe, rfl⟩ := hI.form; have hF7 : FB w7 gt 94 2 (ftF 0 0) := (hfar gt HFL6.out (fun e => HGN.out.2.1 e.symm) (fun e => HNE.out.1 e.symm)).trans HF6.out)
      | (refine wpList_store_all rfl 94 _ _ rfl gt 94 2 _ (ftF fa fe) rfl rfl hF7 sizeFt (ftF_one _ _) ?_; intro w8 h8 hT8 hs8))
    have HF8 := Lib.hid h8
    have HB7 := Lib.hid (HB6.out.trans hB7)
    have HB8 := Lib.hid (HB7.out.trans (hT8.below HNE.out.2.2 HB7.out.size))
    have y1 : w8.cell? ⟨gt, 1, none⟩ = some (.int .i64 fe) := h8.cell 1 (by decide)
    rcases hI.nz rfl with ⟨lf, er, hr2, hfa, hfe, f7, hf7⟩ | ⟨k, hr2, hfa, hfe, vd, vt, vc, hk7⟩
    · have HRR := Lib.hid (show r = .error (q - lf, er) by rw [HRE.out, hr2, HQ.out])
      have hnz : er ≠ 0 := (packR_err _ _ _ _ _ (Nat.le_refl _) (HBY.out.drop 4) hr2).1
      have tn : (fe != 0) = true := by rw [bne_iff_ne, hfe]; exact hnz
      have HK8 := Lib.hid (hf7.touch hT8 HNE.out.1)
      have HFA := Lib.hid hfa
      have HFE := Lib.hid hfe
      clear hI hr2 hfa hfe hnz h8 hT8 hs8 hB7 hfar hF7 hf7 HPM
      go_upto_region 7 with fail
      refine wp_region_held_drew (S := fun W => DecS w gk gt (fa) (fe) W) (by kernel_rfl) ((show DecS w gk gt (fa) (fe) w8 from ⟨⟨_, HK8.out⟩, HF8.out, HB8.out, ⟨HNE.out.1, HNE.out.2.1⟩⟩).drewN 1) (fun hHeld => ?_)
      refine wpAnyH_take (i := 0) (oi := { dst := some 27, op := Op.build 25 #[], type := 25, pos := "pack.go:30", after := #[], guard := none }) (v := .agg #[.int .i64 0, .int .i64 0, .slice none 0 0, .slice none 0 0, .slice none 0 0]) rfl (by kernel_rfl) (by kernel_rfl) (by kernel_rfl) (fun _ _ _ h => h) (Or.inl ⟨by rfl, ?_⟩) (by assumption) ?_
      · intro w hSw
        go_simp
      try simp only [Act.put, List.setIfInBounds_toArray, List.set_cons_zero, List.set_cons_succ]
      refine wpAnyH_take (i := 1) (oi := { dst := some 28, op := Op.fieldAddr 94 (Operand.tmp 6) 0, type := 0, pos := "pack.go:30", after := #[{ on := 5, ground := Ground.gcOnly Departure.lateStores }], guard := none }) (v := .pointer (some ⟨gt, 0, none⟩)) rfl (by kernel_rfl) (by kernel_rfl) (by kernel_rfl) (fun _ _ _ h => h) (Or.inl ⟨by rfl, ?_⟩) (by assumption) ?_
      · intro w hSw
        go_simp
      try simp only [Act.put, List.setIfInBounds_toArray, List.set_cons_zero, List.set_cons_succ]
      refine wpAnyH_take (i := 2) (oi := { dst := some 29, op := Op.load 3 (Operand.tmp 28), type := 3, pos := "pack.go:30", after := #[{ on := 1, ground := Ground.data }, { on := 5, ground := Ground.gcOnly Departure.lateStores }], guard := none }) (v := .int .i64 (fa)) rfl (by kernel_rfl) (by kernel_rfl) (by kernel_rfl) (fun _ _ _ h => h) (Or.inl ⟨by rfl, ?_⟩) (by assumption) ?_
      · intro w hSw
        have q0 : w.cell? ⟨gt, 0, none⟩ = some (.int .i64 (fa)) := hSw.flt.cell 0 (by decide)
        go_simp
      try simp only [Act.put, List.setIfInBounds_toArray, List.set_cons_zero, List.set_cons_succ]
      refine wpAnyH_take (i := 3) (oi := { dst := some 30, op := Op.fieldAddr 94 (Operand.tmp 6) 1, type := 0, pos := "pack.go:30", after := #[{ on := 6, ground := Ground.gcOnly Departure.lateStores }], guard := none }) (v := .pointer (some ⟨gt, 1, none⟩)) rfl (by kernel_rfl) (by kernel_rfl) (by kernel_rfl) (fun _ _ _ h => h) (Or.inl ⟨by rfl, ?_⟩) (by assumption) ?_
      · intro w hSw
        go_simp
      try simp only [Act.put, List.setIfInBounds_toArray, List.set_cons_zero, List.set_cons_succ]
      refine wpAnyH_take (i := 4) (oi := { dst := some 31, op := Op.load 34 (Operand.tmp 30), type := 34, pos := "pack.go:30", after := #[{ on := 3, ground := Ground.data }, { on := 6, ground := Ground.gcOnly Departure.lateStores }], guard := none }) (v := .int .i64 (fe)) rfl (by kernel_rfl) (by kernel_rfl) (by kernel_rfl) (fun _ _ _ h => h) (Or.inl ⟨by rfl, ?_⟩) (by assumption) ?_
      · intro w hSw
        have q0 : w.cell? ⟨gt, 1, none⟩ = some (.int .i64 (fe)) := hSw.flt.cell 1 (by decide)
        go_simp
      try simp only [Act.put, List.setIfInBounds_toArray, List.set_cons_zero, List.set_cons_succ]
      refine wpAnyH_ready (rs := [5]) (by kernel_rfl) (by simp) ?_
      refine AllReadyH.cons (o := { dst := none, op := Op.store 25 (Operand.tmp 2) (Operand.tmp 27), type := 0, pos := "pack.go:30", after := #[{ on := 0, ground := Ground.data }, { on := 0, ground := Ground.phase }, { on := 1, ground := Ground.textOnly Departure.lateStores }, { on := 2, ground := Ground.textOnly Departure.lateStores }, { on := 3, ground := Ground.textOnly Departure.lateStores }, { on := 4, ground := Ground.textOnly Departure.lateStores }], guard := none }) rfl ?_ ?_
      rotate_left
      · exact AllReadyH.nil
      intro K hK
      obtain ⟨fo, hfo⟩ := hHeld.pk
      refine step_store_seg (by rfl) 25 _ _ rfl gk 0 25 5 5 fo zeroPkF rfl rfl hfo (by omega) sizePk (pkF_one rfl rfl rfl) ?_
      intro w6 h6 hT6 hs6
      have H6 := Lib.hid (show FB w6 gk 25 5 zeroPkF from h6.congr fun q hq => by unfold updR; rw [if_pos (by omega), Nat.sub_zero])
      have HS6 := Lib.hid (show DecS w gk gt (fa) (fe) w6 from ⟨⟨_, H6.out⟩, hHeld.flt.touch hT6 (fun e => hHeld.ne.1 e.symm), hHeld.below.trans (hT6.below hHeld.ne.2 hHeld.below.size), hHeld.ne⟩)
      clear h6 hT6 hs6 hHeld hfo
      refine hK.out _ _ HS6.out (fun hHeld => ?_)
      clear hK K
      try simp only [Act.put, List.setIfInBounds_toArray, List.set_cons_zero, List.set_cons_succ]
      refine wpAnyH_take (i := 6) (oi := { dst := some 3, op := Op.assign (Operand.tmp 29), type := 3, pos := "pack.go:30", after := #[{ on := 2, ground := Ground.data }, { on := 5, ground := Ground.chain }, { on := 0, ground := Ground.phase }, { on := 1, ground := Ground.phase }, { on := 2, ground := Ground.phase }, { on := 3, ground := Ground.textOnly Departure.lateStores }, { on := 4, ground := Ground.textOnly Departure.lateStores }, { on := 5, ground := Ground.phase }], guard := none }) (v := .int .i64 (fa)) rfl (by kernel_rfl) (by kernel_rfl) (by kernel_rfl) (fun _ _ _ h => h) (Or.inl ⟨by rfl, ?_⟩) (by assumption) ?_
      · intro w hSw
        go_simp
      try simp only [Act.put, List.setIfInBounds_toArray, List.set_cons_zero, List.set_cons_succ]
      refine wpAnyH_take (i := 7) (oi := { dst := some 4, op := Op.assign (Operand.tmp 31), type := 34, pos := "pack.go:30", after := #[{ on := 4, ground := Ground.data }, { on := 6, ground := Ground.chain }, { on := 0, ground := Ground.phase }, { on := 1, ground := Ground.phase }, { on := 2, ground := Ground.phase }, { on := 3, ground := Ground.phase }, { on := 4, ground := Ground.phase }, { on := 5, ground := Ground.phase }, { on := 6, ground := Ground.phase }], guard := none }) (v := .int .i64 (fe)) rfl (by kernel_rfl) (by kernel_rfl) (by kernel_rfl) (fun _ _ _ h => h) (Or.inl ⟨by rfl, ?_⟩) (by assumption) ?_
      · intro w hSw
        go_simp
      try simp only [Act.put, List.setIfInBounds_toArray, List.set_cons_zero, List.set_cons_succ]
      clear hHeld
      refine wpAnyH_done (by kernel_rfl) ?_ _
      go_wp2_with fail
      refine bodyPost_ret (result_ctt rfl _ _ _ _ gk _ 5 _ _ rfl H6.out Tryd.underlying25 rfl sizePk rfl rfl) rfl ⟨HS6.out.below, ?_⟩
      rw [HRR.out, HFA.out, HFE.out]
      exact rfl
    · have HRR := Lib.hid (show r = .ok k by rw [HRE.out, hr2])
      have tn : (fe != 0) = false := by rw [hfe]; rfl
      have HK8 := Lib.hid (hk7.touch hT8 hF7 (by decide) (by decide) (by decide))
      clear hI hr2 hfa hfe h8 hT8 hs8 hB7 hfar hF7 hk7 HPM
      obtain ⟨F, hF⟩ : ∃ F, F = pkF k.lo k.hi vd vt vc := ⟨_, rfl⟩
      have HKB := Lib.hid (show FB w8 gk 25 5 F by rw [hF]; exact HK8.out.blk)
      have HF1 := Lib.hid (show ∀ p, p < 5 → (F p).oneCell' = true by rw [hF]; exact pkF_one (ownB_one HK8.out.data) (ownT_form HK8.out.tabs) (ownB_one HK8.out.code))
      have HFF := Lib.hid hF
      clear hF
      go_wp2_with (first
        | (refine wpList_load_all rfl 25 _ rfl gk rfl 25 5 F _ HKB.out Tryd.underlying25 rfl sizePk ?_)
        | (refine wpList_store_all rfl 25 _ _ rfl gk 25 5 _ F rfl rfl HKB.out sizePk HF1.out ?_; intro w9 h9 hT9 hs9))
      refine bodyPost_ret (result_ctt rfl _ _ _ _ gk _ 5 _ _ rfl h9 Tryd.underlying25 rfl sizePk rfl rfl) rfl ⟨HB8.out.trans (hT9.below HNE.out.2.1 HB8.out.size), ?_⟩
      rw [HRR.out]
      exact ⟨vd, vt, vc, by rw [HFF.out]; rfl, ownB_touch HK8.out.data hT9 HK8.out.blk (by decide), ownT_touch HK8.out.tabs hT9 HK8.out.blk (by decide), ownB_touch HK8.out.code hT9 HK8.out.blk (by decide)⟩
end Go.Proofs.YtlodoinmippebaaDoor.Pak
/- Package pack: containers copied, and held against each other. -/
namespace Go.Proofs.YtlodoinmippebaaDoor.Pak
open Go.ChangeShapes Go.WideShapes Go.ChangeAt Go.RowKit
set_option linter.unusedVariables false
set_option linter.unusedSimpArgs false
set_option maxRecDepth 100000
theorem copyBytes_own (w : World) (A : Option Addr) (n c : Nat) (L : List Int) (h : Sl w A n c L) (hlen : n ≤ 140737488355328) :
    Calls Tryd.prog 27 #[.slice A n c] w (CopEnd w L) := by
  have hown := OwnB.nil w w.heap.size
  have hL := h.len.out
  have hat := h.byt
  clear h
  go_enter Tryd.func27, Tryd.ntmps27
  go_wp2_with (at_builtin; (refine append_bytes Tryd.underlying22 byte_info _ rfl (.const (.slice none 0 0)) (.tmp 3) rfl w.heap.size _ _ rfl hown _ n c _ rfl hL hat (by simpa using hlen) (Nat.le_refl _) ?_; intro v' w' hown' hB'))
  have HO := Lib.hid hown'
  obtain ⟨A', c', hv, -⟩ := hown'.form
  subst hv
  go_ret
  exact ⟨_, rfl, HO.out, hB'⟩
theorem tb_reads {w : World} {A : Option Addr} {n c : Nat} {l : List (Int × Int)} (h : Tb w A n c l) : Reads w w.heap.size 2 A n (flat 2 tabF l) := by
  refine ⟨by rw [flat_len, h.len.out], fun hp => ?_⟩
  obtain ⟨b, off, rfl, hlt, hc⟩ := h.row (by rw [h.len.out]; exact hp)
  refine ⟨_, rfl, hlt, fun j u hu => ?_⟩
  have hj : j < l.length * 2 := by
    rcases Nat.lt_or_ge j (flat 2 tabF l).length with h1 | h1
    · rw [flat_len] at h1; exact h1
    · rw [List.getElem?_eq_none h1] at hu; cases hu
  obtain ⟨a, ha⟩ : ∃ a, l[j / 2]? = some a := ⟨_, List.getElem?_eq_getElem (by omega)⟩
  have h2 := flat_get 2 tabF l (j / 2) a ha (j % 2) (Nat.mod_lt _ (by decide))
  rw [show j / 2 * 2 + j % 2 = j by omega, hu] at h2
  injection h2 with h2
  rw [addr_add, h2, ← hc (j / 2) a ha (j % 2) (Nat.mod_lt _ (by decide)), show off + j / 2 * 2 + j % 2 = off + j by omega]
theorem tabF_two {v : Value} {l : List (Int × Int)} (h : v ∈ flat 2 tabF l) : v.oneCell' = true := by
  unfold flat at h
  obtain ⟨a, _, h2⟩ := List.mem_flatMap.1 h
  rw [arr_toList] at h2
  obtain ⟨q, hq, rfl⟩ := List.mem_map.1 h2
  exact tabF_one a q (List.mem_range.1 hq)
theorem copyTables_own (w : World) (A : Option Addr) (n c : Nat) (l : List (Int × Int)) (h : Tb w A n c l) (hlen : n ≤ 8796093022208) :
    Calls Tryd.prog 10 #[.slice A n c] w fun e w' => ∃ v, e = .returned v ∧ OwnR 69 2 tabF w' w.heap.size v l ∧ Below w.heap.size w w' := by
  have hown : w.ownsRow w.heap.size 69 2 (.slice none 0 0) 0 [] := World.ownsRow_nil w w.heap.size _ 2
  have hr := tb_reads h
  have hl := h.len.out
  obtain ⟨i0, hi0, hz0, hz1, hz2, hz3⟩ : ∃ i z, (Tryd.prog.info? 69) = some i ∧ i.zero = some z ∧ z.cells.size = 2 ∧ i.size = 2 ∧ i.bytes = 16 := by
    cases hq : Tryd.prog.info? 69 with
    | none => have := infoT; rw [hq] at this; cases this
    | some i =>
      have := infoT
      rw [hq] at this
      simp only [Option.map_some, Option.some.injEq, Prod.mk.injEq] at this
      obtain ⟨h1, h2, h3⟩ := this
      cases hz : i.zero with
      | none => rw [hz] at h1; cases h1
      | some z =>
        rw [hz] at h1
        have hzc : z.cells = arr 2 (tabF (0, 0)) := by simpa using h1
        exact ⟨i, z, rfl, hz, by rw [hzc, arr_size], h2, h3⟩
  obtain ⟨q3, q4⟩ := hz3
  clear h
  go_enter Tryd.func10, Tryd.ntmps10
  go_wp2_with (at_builtin; (refine wpList_append_wide w rfl (.const (.slice none 0 0)) (.tmp 3) 23 rfl w.heap.size 69 i0 hi0 2 16 Tryd.underlying23 hz0 hz1 q3 q4 hz2 (by decide) (.slice none 0 0) 0 [] rfl hown w.heap.size A n c (flat 2 tabF l) rfl hr (fun u hu => tabF_two hu) (by unfold maxLen; omega) (by omega) (Nat.le_refl _) ?_; intro v' w' hown' hg'))
  have HO := Lib.hid (show OwnR 69 2 tabF w' w.heap.size v' l by
    unfold OwnR
    rw [hl]
    rw [Nat.zero_add, List.nil_append] at hown'
    exact hown')
  have HB := Lib.hid (show Below w.heap.size w w' from (Below.refl _ _).grown hg' (Nat.le_refl _) (fun k hk => by simp [Value.ownBlock] at hk))
  obtain ⟨A', m', c', hv, -⟩ := HO.out.form
  subst hv
  go_ret
  exact ⟨_, rfl, HO.out, HB.out⟩
theorem ownR_base {α : Type} {e : TypeId} {s : Nat} {f : α → Nat → Value} {w : World} {base base' : Nat} {v : Value} {l : List α} (h : OwnR e s f w base v l) (hb : base' ≤ base) : OwnR e s f w base' v l := by
  refine ⟨h.1, ?_⟩
  rcases h.2 with h1 | ⟨g, cap, cur, hv, hg, h1⟩
  · exact .inl h1
  · exact .inr ⟨g, cap, cur, hv, by omega, h1⟩
theorem pkAt_of {w : World} {base : Nat} {vd vt vc : Value} {k : Pk} (h1 : OwnB w base vd k.data) (h2 : OwnR 69 2 tabF w base vt k.tabs) (h3 : OwnB w base vc k.code) : PkAt w vd vt vc k := by
  obtain ⟨A, m, c, hv, hm, hc, hr, _⟩ := h2.form
  exact ⟨own_full h1, ⟨A, m, c, hv, ⟨Lib.hid hm.out.symm, hc, hr⟩⟩, own_full h3⟩
def CopPk (w : World) (k : Pk) (e : Ending) (w' : World) : Prop := ∃ vd vt vc, e = .returned (.agg (arr 5 (pkF k.lo k.hi vd vt vc))) ∧ PkAt w' vd vt vc k ∧ Below w.heap.size w w'
structure CpS (gb gr : Nat) (X : Nat → Value) (W : World) : Prop where
  box : FB W gb 25 5 X
  res : ∃ f, FB W gr 25 5 f
  ne : gb ≠ gr
set_option maxHeartbeats 4000000 in
theorem copyPack_any (w : World) (k : Pk) (vd vt vc : Value) (hk : PkAt w vd vt vc k) (hdl : k.data.length ≤ 140737488355328) (hcl : k.code.length ≤ 140737488355328) (htl : k.tabs.length ≤ 8796093022208) :
    Calls Tryd.prog 13 #[.agg (arr 5 (pkF k.lo k.hi vd vt vc))] w (CopPk w k) := by
  obtain ⟨⟨Ad, nd, cd, rfl, hD⟩, ⟨At, nt, ct, rfl, hT⟩, Ac, nc, cc, rfl, hC⟩ := hk
  obtain ⟨lo, hi, data, tabs, code⟩ := k
  simp only at hD hT hC hdl hcl htl ⊢
  have HD := Lib.hid hD
  have HT := Lib.hid hT
  have HC := Lib.hid hC
  have hnd : nd ≤ 140737488355328 := by have := hD.len.out; omega
  have hnc : nc ≤ 140737488355328 := by have := hC.len.out; omega
  have hnt : nt ≤ 8796093022208 := by have := hT.len.out; omega
  obtain ⟨X, hX⟩ : ∃ X, X = pkF lo hi (.slice Ad nd cd) (.slice At nt ct) (.slice Ac nc cc) := ⟨_, rfl⟩
  rw [← hX]
  have HX := Lib.hid hX
  clear hX hD hT hC hdl hcl htl
  go_enter Tryd.func13, Tryd.ntmps13
  go_upto_region 1 with (first
    | (refine wpList_box_seg rfl _ (.tmp 0) rfl 5 X rfl ?_; intro w1 h1 hB1 hs1)
    | (refine wpList_alloc_seg rfl 25 rfl 5 zeroPkF zeroPk ?_; intro w2 h2 hB2 hs2))
  obtain ⟨gb, hgb⟩ : ∃ gb, gb = w.heap.size := ⟨_, rfl⟩
  obtain ⟨gr, hgr⟩ : ∃ gr, gr = w1.heap.size := ⟨_, rfl⟩
  rw [← hgb] at h1 ⊢
  rw [← hgr] at h2 ⊢
  have hb2 : Below w.heap.size w w2 := hB1.trans (hB2.mono hB1.size)
  have HB2 := Lib.hid hb2
  have HS := Lib.hid (show CpS gb gr X w2 from ⟨h1.up hB2, ⟨_, h2⟩, by omega⟩)
  have HGR := Lib.hid (show w.heap.size ≤ gr ∧ gr < w2.heap.size by omega)
  clear h1 hB1 hs1 h2 hB2 hs2 hgb hgr hb2
  refine wp_region_held_drew (S := fun W => CpS gb gr X W) (by kernel_rfl) ⟨HS.out.box.drewN 1, HS.out.res.imp fun _ h => h.drewN 1, HS.out.ne⟩ (fun hHeld => ?_)
  refine wpAnyH_take (i := 0) (oi := { dst := some 3, op := Op.fieldAddr 25 (Operand.tmp 1) 0, type := 0, pos := "plain.go:96", after := #[], guard := none }) (v := .pointer (some ⟨gb, 0, none⟩)) rfl (by kernel_rfl) (by kernel_rfl) (by kernel_rfl) (fun _ _ _ h => h) (Or.inl ⟨by rfl, ?_⟩) (by assumption) ?_
  · intro w hSw
    go_simp
  try simp only [Act.put, List.setIfInBounds_toArray, List.set_cons_zero, List.set_cons_succ]
  refine wpAnyH_take (i := 1) (oi := { dst := some 4, op := Op.load 3 (Operand.tmp 3), type := 3, pos := "plain.go:96", after := #[{ on := 0, ground := Ground.data }], guard := none }) (v := .int .i64 lo) rfl (by kernel_rfl) (by kernel_rfl) (by kernel_rfl) (fun _ _ _ h => h) (Or.inl ⟨by rfl, ?_⟩) (by assumption) ?_
  · intro w hSw
    have q0 : w.cell? ⟨gb, 0, none⟩ = some (.int .i64 lo) := by rw [hSw.box.cell 0 (by decide), HX.out]; rfl
    go_simp
  try simp only [Act.put, List.setIfInBounds_toArray, List.set_cons_zero, List.set_cons_succ]
  refine wpAnyH_take (i := 2) (oi := { dst := some 5, op := Op.fieldAddr 25 (Operand.tmp 1) 1, type := 0, pos := "plain.go:96", after := #[], guard := none }) (v := .pointer (some ⟨gb, 1, none⟩)) rfl (by kernel_rfl) (by kernel_rfl) (by kernel_rfl) (fun _ _ _ h => h) (Or.inl ⟨by rfl, ?_⟩) (by assumption) ?_
  · intro w hSw
    go_simp
  try simp only [Act.put, List.setIfInBounds_toArray, List.set_cons_zero, List.set_cons_succ]
  refine wpAnyH_take (i := 3) (oi := { dst := some 6, op := Op.load 3 (Operand.tmp 5), type := 3, pos := "plain.go:96", after := #[{ on := 2, ground := Ground.data }], guard := none }) (v := .int .i64 hi) rfl (by kernel_rfl) (by kernel_rfl) (by kernel_rfl) (fun _ _ _ h => h) (Or.inl ⟨by rfl, ?_⟩) (by assumption) ?_
  · intro w hSw
    have q0 : w.cell? ⟨gb, 1, none⟩ = some (.int .i64 hi) := by rw [hSw.box.cell 1 (by decide), HX.out]; rfl
    go_simp
  try simp only [Act.put, List.setIfInBounds_toArray, List.set_cons_zero, List.set_cons_succ]
  refine wpAnyH_take (i := 4) (oi := { dst := some 7, op := Op.fieldAddr 25 (Operand.tmp 1) 2, type := 0, pos := "plain.go:96", after := #[], guard := none }) (v := .pointer (some ⟨gb, 2, none⟩)) rfl (by kernel_rfl) (by kernel_rfl) (by kernel_rfl) (fun _ _ _ h => h) (Or.inl ⟨by rfl, ?_⟩) (by assumption) ?_
  · intro w hSw
    go_simp
  try simp only [Act.put, List.setIfInBounds_toArray, List.set_cons_zero, List.set_cons_succ]
  refine wpAnyH_take (i := 5) (oi := { dst := some 8, op := Op.load 22 (Operand.tmp 7), type := 22, pos := "plain.go:96", after := #[{ on := 4, ground := Ground.data }], guard := none }) (v := .slice Ad nd cd) rfl (by kernel_rfl) (by kernel_rfl) (by kernel_rfl) (fun _ _ _ h => h) (Or.inl ⟨by rfl, ?_⟩) (by assumption) ?_
  · intro w hSw
    have q0 : w.cell? ⟨gb, 2, none⟩ = some (.slice Ad nd cd) := by rw [hSw.box.cell 2 (by decide), HX.out]; rfl
    go_simp
  try simp only [Act.put, List.setIfInBounds_toArray, List.set_cons_zero, List.set_cons_succ]
  refine wpAnyH_take (i := 7) (oi := { dst := some 10, op := Op.fieldAddr 25 (Operand.tmp 1) 3, type := 0, pos := "plain.go:96", after := #[], guard := none }) (v := .pointer (some ⟨gb, 3, none⟩)) rfl (by kernel_rfl) (by kernel_rfl) (by kernel_rfl) (fun _ _ _ h => h) (Or.inl ⟨by rfl, ?_⟩) (by assumption) ?_
  · intro w hSw
    go_simp
  try simp only [Act.put, List.setIfInBounds_toArray, List.set_cons_zero, List.set_cons_succ]
  refine wpAnyH_take (i := 8) (oi := { dst := some 11, op := Op.load 23 (Operand.tmp 10), type := 23, pos := "plain.go:96", after := #[{ on := 7, ground := Ground.data }], guard := none }) (v := .slice At nt ct) rfl (by kernel_rfl) (by kernel_rfl) (by kernel_rfl) (fun _ _ _ h => h) (Or.inl ⟨by rfl, ?_⟩) (by assumption) ?_
  · intro w hSw
    have q0 : w.cell? ⟨gb, 3, none⟩ = some (.slice At nt ct) := by rw [hSw.box.cell 3 (by decide), HX.out]; rfl
    go_simp
  try simp only [Act.put, List.setIfInBounds_toArray, List.set_cons_zero, List.set_cons_succ]
  refine wpAnyH_take (i := 10) (oi := { dst := some 13, op := Op.fieldAddr 25 (Operand.tmp 1) 4, type := 0, pos := "plain.go:96", after := #[], guard := none }) (v := .pointer (some ⟨gb, 4, none⟩)) rfl (by kernel_rfl) (by kernel_rfl) (by kernel_rfl) (fun _ _ _ h => h) (Or.inl ⟨by rfl, ?_⟩) (by assumption) ?_
  · intro w hSw
    go_simp
  try simp only [Act.put, List.setIfInBounds_toArray, List.set_cons_zero, List.set_cons_succ]
  refine wpAnyH_take (i := 11) (oi := { dst := some 14, op := Op.load 22 (Operand.tmp 13), type := 22, pos := "plain.go:96", after := #[{ on := 10, ground := Ground.data }], guard := none }) (v := .slice Ac nc cc) rfl (by kernel_rfl) (by kernel_rfl) (by kernel_rfl) (fun _ _ _ h => h) (Or.inl ⟨by rfl, ?_⟩) (by assumption) ?_
  · intro w hSw
    have q0 : w.cell? ⟨gb, 4, none⟩ = some (.slice Ac nc cc) := by rw [hSw.box.cell 4 (by decide), HX.out]; rfl
    go_simp
  try simp only [Act.put, List.setIfInBounds_toArray, List.set_cons_zero, List.set_cons_succ]
  refine wpAnyH_ready (rs := [6]) (by kernel_rfl) (by simp) ?_
  refine AllReadyH.cons (o := { dst := some 9, op := Op.call { callee := Callee.value (Operand.func 27), args := #[Operand.tmp 8], argTypes := #[22] }, type := 22, pos := "plain.go:96", after := #[{ on := 5, ground := Ground.data }], guard := none }) rfl ?_ ?_
  rotate_left
  · exact AllReadyH.nil
  intro K hK
  go_simp
  go_at_call 27
  refine (copyBytes_own w2.drew Ad nd cd data ((HD.out.up HB2.out).up (below_drewN (Below.refl _ _) 1)) hnd).mono ?_
  rintro e w3 ⟨v3, rfl, hO3, hB3⟩
  have HB3 := Lib.hid (show Below w.heap.size w w3 from (below_drewN HB2.out 1).trans (hB3.mono HB2.out.size))
  have HS3 := Lib.hid (show CpS gb gr X w3 from ⟨hHeld.box.up hB3, hHeld.res.imp fun _ h => h.up hB3, hHeld.ne⟩)
  have HO3 := Lib.hid (OwnB_base (base' := w.heap.size) hO3 HB2.out.size)
  have HGR3 := Lib.hid (show gr < w3.heap.size from Nat.lt_of_lt_of_le HGR.out.2 hB3.size)
  clear hO3 hB3 hHeld
  obtain ⟨A3, n3, c3, rfl, -⟩ := own_full HO3.out
  go_simp
  refine hK.out _ _ HS3.out (fun hHeld => ?_)
  clear hK K
  try simp only [Act.put, List.setIfInBounds_toArray, List.set_cons_zero, List.set_cons_succ]
  refine wpAnyH_ready (rs := [9]) (by kernel_rfl) (by simp) ?_
  refine AllReadyH.cons (o := { dst := some 12, op := Op.call { callee := Callee.value (Operand.func 10), args := #[Operand.tmp 11], argTypes := #[23] }, type := 23, pos := "plain.go:96", after := #[{ on := 8, ground := Ground.data }, { on := 6, ground := Ground.chain }], guard := none }) rfl ?_ ?_
  rotate_left
  · exact AllReadyH.nil
  intro K hK
  go_simp
  go_at_call 10
  refine (copyTables_own w3 At nt ct tabs (HT.out.up HB3.out) hnt).mono ?_
  rintro e w4 ⟨v4, rfl, hO4, hB4⟩
  have HB4 := Lib.hid (show Below w.heap.size w w4 from HB3.out.trans (hB4.mono HB3.out.size))
  have HS4 := Lib.hid (show CpS gb gr X w4 from ⟨hHeld.box.up hB4, hHeld.res.imp fun _ h => h.up hB4, hHeld.ne⟩)
  have HO4 := Lib.hid (ownR_base (base' := w.heap.size) hO4 HB3.out.size)
  have HO34 := Lib.hid (ownB_up HO3.out hB4)
  have HGR4 := Lib.hid (show gr < w4.heap.size from Nat.lt_of_lt_of_le HGR3.out hB4.size)
  clear hO4 hB4 hHeld HO3 HS3
  obtain ⟨A4, n4, c4, rfl, -⟩ := HO4.out.form
  go_simp
  refine hK.out _ _ HS4.out (fun hHeld => ?_)
  clear hK K
  try simp only [Act.put, List.setIfInBounds_toArray, List.set_cons_zero, List.set_cons_succ]
  refine wpAnyH_ready (rs := [12]) (by kernel_rfl) (by simp) ?_
  refine AllReadyH.cons (o := { dst := some 15, op := Op.call { callee := Callee.value (Operand.func 27), args := #[Operand.tmp 14], argTypes := #[22] }, type := 22, pos := "plain.go:96", after := #[{ on := 11, ground := Ground.data }, { on := 9, ground := Ground.chain }], guard := none }) rfl ?_ ?_
  rotate_left
  · exact AllReadyH.nil
  intro K hK
  go_simp
  go_at_call 27
  refine (copyBytes_own w4 Ac nc cc code (HC.out.up HB4.out) hnc).mono ?_
  rintro e w5 ⟨v5, rfl, hO5, hB5⟩
  have HB5 := Lib.hid (show Below w.heap.size w w5 from HB4.out.trans (hB5.mono HB4.out.size))
  have HS5 := Lib.hid (show CpS gb gr X w5 from ⟨hHeld.box.up hB5, hHeld.res.imp fun _ h => h.up hB5, hHeld.ne⟩)
  have HO5 := Lib.hid (OwnB_base (base' := w.heap.size) hO5 HB4.out.size)
  have HO35 := Lib.hid (ownB_up HO34.out hB5)
  have HO45 := Lib.hid (HO4.out.up hB5)
  clear hO5 hB5 hHeld HO34 HO4 HS4
  obtain ⟨A5, n5, c5, rfl, -⟩ := own_full HO5.out
  go_simp
  refine hK.out _ _ HS5.out (fun hHeld => ?_)
  clear hK K
  try simp only [Act.put, List.setIfInBounds_toArray, List.set_cons_zero, List.set_cons_succ]
  refine wpAnyH_take (i := 13) (oi := { dst := some 16, op := Op.build 25 #[(0, Operand.tmp 4), (1, Operand.tmp 6), (2, Operand.tmp 9), (3, Operand.tmp 12), (4, Operand.tmp 15)], type := 25, pos := "plain.go:96", after := #[{ on := 1, ground := Ground.data }, { on := 3, ground := Ground.data }, { on := 6, ground := Ground.data }, { on := 9, ground := Ground.data }, { on := 12, ground := Ground.data }], guard := none }) (v := .agg #[.int .i64 lo, .int .i64 hi, .slice A3 n3 c3, .slice A4 n4 c4, .slice A5 n5 c5]) rfl (by kernel_rfl) (by kernel_rfl) (by kernel_rfl) (fun _ _ _ h => h) (Or.inl ⟨by rfl, ?_⟩) (by assumption) ?_
  · intro w hSw
    go_simp
  try simp only [Act.put, List.setIfInBounds_toArray, List.set_cons_zero, List.set_cons_succ]
  clear hHeld
  refine wpAnyH_ready (rs := [14]) (by kernel_rfl) (by simp) ?_
  refine AllReadyH.cons (o := { dst := none, op := Op.store 25 (Operand.tmp 2) (Operand.tmp 16), type := 0, pos := "plain.go:96", after := #[{ on := 13, ground := Ground.data }, { on := 12, ground := Ground.chain }, { on := 0, ground := Ground.phase }, { on := 1, ground := Ground.phase }, { on := 2, ground := Ground.phase }, { on := 3, ground := Ground.phase }, { on := 4, ground := Ground.phase }, { on := 5, ground := Ground.phase }, { on := 6, ground := Ground.phase }, { on := 7, ground := Ground.phase }, { on := 8, ground := Ground.phase }, { on := 9, ground := Ground.phase }, { on := 10, ground := Ground.phase }, { on := 11, ground := Ground.phase }, { on := 12, ground := Ground.phase }, { on := 13, ground := Ground.phase }], guard := none }) rfl ?_ ?_
  rotate_left
  · exact AllReadyH.nil
  intro K hK
  obtain ⟨fo, hfo⟩ := HS5.out.res
  refine step_store_seg (by rfl) 25 _ _ rfl gr 0 25 5 5 fo (pkF lo hi (.slice A3 n3 c3) (.slice A4 n4 c4) (.slice A5 n5 c5)) rfl rfl hfo (by omega) sizePk (pkF_one rfl rfl rfl) ?_
  intro w6 h6 hT6 hs6
  have H6 := Lib.hid (show FB w6 gr 25 5 (pkF lo hi (.slice A3 n3 c3) (.slice A4 n4 c4) (.slice A5 n5 c5)) from h6.congr fun q hq => by unfold updR; rw [if_pos (by omega), Nat.sub_zero])
  have HS6 := Lib.hid (show CpS gb gr X w6 from ⟨HS5.out.box.touch hT6 HS5.out.ne, ⟨_, H6.out⟩, HS5.out.ne⟩)
  have HP6 := Lib.hid (show PkAt w6 (.slice A3 n3 c3) (.slice A4 n4 c4) (.slice A5 n5 c5) ⟨lo, hi, data, tabs, code⟩ from pkAt_of (ownB_touch HO35.out hT6 hfo (by decide)) (ownT_touch HO45.out hT6 hfo (by decide)) (ownB_touch HO5.out hT6 hfo (by decide)))
  have HB6 := Lib.hid (show Below w.heap.size w w6 from HB5.out.trans (hT6.below HGR.out.1 HB5.out.size))
  clear h6 hT6 hs6 hfo
  refine hK.out _ _ HS6.out (fun hHeld => ?_)
  clear hK K
  try simp only [Act.put, List.setIfInBounds_toArray, List.set_cons_zero, List.set_cons_succ]
  clear hHeld
  refine wpAnyH_done (by kernel_rfl) ?_ _
  go_wp2_with fail
  refine bodyPost_ret (result_seg rfl _ _ gr _ 5 _ _ rfl H6.out Tryd.underlying25 rfl sizePk) rfl ⟨_, _, _, rfl, HP6.out, HB6.out⟩
end Go.Proofs.YtlodoinmippebaaDoor.Pak
/- Package pack: containers held against each other. -/
namespace Go.Proofs.YtlodoinmippebaaDoor.Pak
open Go.ChangeShapes Go.WideShapes Go.ChangeAt Go.RowKit
set_option linter.unusedVariables false
set_option linter.unusedSimpArgs false
set_option maxRecDepth 100000
section
variable {P : Program} {ops : Array Oper} {w : World}
theorem wpList_neq_arr {rest : List Oper} {o : Oper} {a : Act} {Q : Exit → Act → World → Prop} (hgd : Region.wanted o (yielded ops a.tmps) = true) (t rt : TypeId) (x y : Operand) (ho : o.op = .binOp .neq t x y rt) (xs ys : Array Value) (r : Bool) (hx : a.eval x = .agg xs) (hy : a.eval y = .agg ys)
    (hm : P.eqGuardType P.depth t = false) (hr : (Op.equalIn 10000 t (.agg xs) (.agg ys)).run P w = .ok r w) (h : wpList P ops Q rest (a.put o.dst (.bool (!r))) w) : wpList P ops Q (o :: rest) a w :=
  wpList_step fun K hK => by
    rw [if_pos hgd]
    unfold Oper.wp execOp
    simp only [ho, hx, hy, Sem.run_bind, run_eqGuard_agg w .neq t x y xs ys hm, Result.andThen_ok, run_neq_struct, hr, Sem.run_pure]
    exact hK _ _ h
end
theorem eq_tab (x y : Int × Int) (w : World) : (Op.equalIn 10000 69 (.agg (arr 2 (tabF x))) (.agg (arr 2 (tabF y)))).run Tryd.prog w = .ok (decide (x = y)) w := by
  have u3 := Tryd.underlying3
  have hS : Tryd.prog.underlying 69 = some (.struct (Tryd.prog.fieldsOf 69)) := by kernel_rfl
  obtain ⟨k, t⟩ := x
  obtain ⟨k', t'⟩ := y
  rw [show arr 2 (tabF (k, t)) = #[.int .i64 k, .int .i64 t] from rfl, show arr 2 (tabF (k', t')) = #[.int .i64 k', .int .i64 t'] from rfl]
  by_cases h : (k, t) = (k', t')
  · rw [decide_eq_true h]
    injection h with h1 h2
    subst h1 h2
    rw [show (10000 : Nat) = 9999 + 1 from rfl, run_equalIn_struct w 9999 69 _ _ hS (by kernel_rfl)]
    simp only [Program.fieldsOf, Tryd.underlying69]
    go_simp
  · rw [decide_eq_false h]
    rw [show (10000 : Nat) = 9999 + 1 from rfl, run_equalIn_struct w 9999 69 _ _ hS (by kernel_rfl)]
    simp only [Program.fieldsOf, Tryd.underlying69]
    go_simp
    intro h0 h1
    exact h (by rw [h0, h1])
theorem guardTab : Tryd.prog.eqGuardType Tryd.prog.depth 69 = false := by kernel_rfl
theorem take_diff {α : Type} {L M : List α} {j : Nat} {x y : α} (hx : L[j]? = some x) (hy : M[j]? = some y) (h : x ≠ y) : L ≠ M := fun e => by
  rw [e, hy] at hx
  injection hx with hx
  exact h hx.symm
theorem take_more {α : Type} {L M : List α} {j : Nat} {x y : α} (hx : L[j]? = some x) (hy : M[j]? = some y) (h : x = y) (ht : L.take j = M.take j) : L.take (j + 1) = M.take (j + 1) := by
  rw [List.take_add_one, List.take_add_one, hx, hy, ht, h]
set_option maxHeartbeats 4000000 in
theorem sameTables_any (w : World) (A : Option Addr) (n c : Nat) (A' : Option Addr) (n' c' : Nat) (L M : List (Int × Int)) (hA : Tb w A n c L) (hA' : Tb w A' n' c' M) (hn : n ≤ 1152921504606846976) (hn' : n' ≤ 1152921504606846976) :
    Calls Tryd.prog 43 #[.slice A n c, .slice A' n' c'] w (RetB w (.bool (decide (L = M)))) := by
  have HL := hA.len
  have HM := hA'.len
  have HA := Lib.hid hA
  have HA' := Lib.hid hA'
  clear hA hA'
  go_enter Tryd.func43, Tryd.ntmps43
  by_cases hnn : n = n'
  · subst hnn
    have tn : ((n : Int) != n) = false := by simp
    go_wp2_with fail
    go_loopw [5, 11, 12, 13, 14, 15, 16, 17, 18, 19, 20, 21, 22, 23, 24, 25] (fun a5 _ _ _ _ _ _ _ _ _ _ _ _ _ _ _ wr => ∃ (j : Nat), a5 = .int .i64 j ∧ j ≤ n ∧ Hid (L.take j = M.take j) ∧ Below w.heap.size w wr) (fun a5 _ _ _ _ _ _ _ _ _ _ _ _ _ _ _ _ => (n - intOf a5).toNat)
    case atStart => exact ⟨0, rfl, Nat.zero_le _, Lib.hid rfl, Below.refl _ _⟩
    case round =>
      obtain ⟨j, rfl, hj, HTK, hB⟩ := hrel
      have HB := Lib.hid hB
      clear hB
      by_cases hlt : j < n
      · have hlt' : (j : Int) < n := by omega
        obtain ⟨x, hx, -⟩ := drop_cons (l := L) (j := j) (by have := HL.out; omega)
        obtain ⟨y, hy, -⟩ := drop_cons (l := M) (j := j) (by have := HM.out; omega)
        obtain ⟨b, off, rfl, hbl, hcx⟩ := (HA.out.up HB.out).row (by have := HL.out; omega)
        obtain ⟨b', off', rfl, hbl', hcy⟩ := (HA'.out.up HB.out).row (by have := HM.out; omega)
        obtain ⟨F, hF⟩ : ∃ F, F = tabF x := ⟨_, rfl⟩
        obtain ⟨F', hF'⟩ : ∃ F, F = tabF y := ⟨_, rfl⟩
        have h1 := hcx j x hx
        have h2 := hcy j y hy
        have HY := Lib.hid hx
        have HZ := Lib.hid hy
        clear hcx hcy hx hy
        go_upto_region 6 with fail
        refine wp_region_tail 8 (by kernel_rfl) (by kernel_rfl) fun W hW => ?_
        simp only [List.take_succ_cons, List.take_zero, List.drop_succ_cons, List.drop_zero]
        rw [← hF] at h1
        rw [← hF'] at h2
        have HX := Lib.hid (show ∀ k, k < 2 → W.cell? ⟨b, off + j * 2 + k, none⟩ = some (F k) by rw [hW]; exact h1)
        have HX' := Lib.hid (show ∀ k, k < 2 → W.cell? ⟨b', off' + j * 2 + k, none⟩ = some (F' k) by rw [hW]; exact h2)
        have HBW := Lib.hid (show Below w.heap.size w W by rw [hW]; exact below_drewN HB.out 1)
        have HEQ := Lib.hid (show (Op.equalIn 10000 69 (.agg (arr 2 F)) (.agg (arr 2 F'))).run Tryd.prog W = .ok (decide (x = y)) W by rw [hF, hF']; exact eq_tab x y W)
        clear hW h1 h2 hF hF' HB
        iterate 3 still_step
        refine wpStill_load_cells rfl 69 _ rfl b (off + j * 2) rfl 2 F _ HX.out Tryd.underlying69 rfl sizeTab ?_
        iterate 3 still_step
        refine wpStill_load_cells rfl 69 _ rfl b' (off' + j * 2) rfl 2 F' _ HX'.out Tryd.underlying69 rfl sizeTab ?_
        refine wpStill_nil ?_
        obtain ⟨r, hr⟩ : ∃ r, r = decide (x = y) := ⟨_, rfl⟩
        rw [← hr] at HEQ
        refine wpList_neq_arr rfl 69 _ _ _ rfl (arr 2 F) (arr 2 F') r rfl rfl guardTab HEQ.out ?_
        cases r
        · have HE := Lib.hid (decide_eq_false (take_diff HY.out HZ.out (of_decide_eq_false hr.symm)))
          clear hr
          go_wp2_with fail
          go_ret
          exact ⟨ret_bool HE.out.symm, HBW.out⟩
        · have HD := Lib.hid (take_more HY.out HZ.out (of_decide_eq_true hr.symm) HTK.out)
          clear hr
          go_wp2_with fail
          go_roundw
          case rel => exact ⟨j + 1, by go_num, by omega, HD, HBW.out⟩
          case measure => simp [intOf]; omega
      · obtain rfl : j = n := by omega
        have HE := Lib.hid (show L = M by
          have h5 := HTK.out
          rwa [List.take_of_length_le (by rw [HL.out]; exact Nat.le_refl _), List.take_of_length_le (by rw [HM.out]; exact Nat.le_refl _)] at h5)
        clear hlt HTK
        go_wp2_with fail
        go_ret
        exact ⟨ret_bool (decide_eq_true HE.out).symm, HB.out⟩
  · have tn : ((n : Int) != n') = true := by rw [bne_iff_ne]; omega
    have HE := Lib.hid (show ¬ L = M from fun e => hnn (by rw [← HL.out, ← HM.out, e]))
    clear hnn
    go_wp2_with fail
    go_ret
    exact ⟨ret_bool (decide_eq_false HE.out).symm, Below.refl _ _⟩
def samePk (a b : Pk) : Bool := decide (a.lo = b.lo) && (decide (a.hi = b.hi) && (decide (a.data = b.data) && (decide (a.tabs = b.tabs) && decide (a.code = b.code))))
theorem samePk_iff (a b : Pk) : samePk a b = true ↔ a = b := by
  obtain ⟨a1, a2, a3, a4, a5⟩ := a
  obtain ⟨b1, b2, b3, b4, b5⟩ := b
  unfold samePk
  simp only [Bool.and_eq_true, decide_eq_true_eq, Pk.mk.injEq]
set_option maxHeartbeats 8000000 in
theorem samePack_any (w : World) (a b : Pk) (vd vt vc vd' vt' vc' : Value) (ha : PkAt w vd vt vc a) (hb : PkAt w vd' vt' vc' b) (hda : Bytes a.data) (hca : Bytes a.code) (hdb : Bytes b.data) (hcb : Bytes b.code) (hta : a.tabs.length ≤ 1152921504606846976) (htb : b.tabs.length ≤ 1152921504606846976) :
    Calls Tryd.prog 14 #[.agg (arr 5 (pkF a.lo a.hi vd vt vc)), .agg (arr 5 (pkF b.lo b.hi vd' vt' vc'))] w (RetB w (.bool (samePk a b))) := by
  obtain ⟨⟨Ad, nd, cd, rfl, hD⟩, ⟨At, nt, ct, rfl, hT⟩, Ac, nc, cc, rfl, hC⟩ := ha
  obtain ⟨⟨Bd, md, dd, rfl, kD⟩, ⟨Bt, mt, dt, rfl, kT⟩, Bc, mc, dc, rfl, kC⟩ := hb
  obtain ⟨lo, hi, data, tabs, code⟩ := a
  obtain ⟨lo', hi', data', tabs', code'⟩ := b
  simp only at hD hT hC kD kT kC hda hca hdb hcb hta htb ⊢
  have HSD := Lib.hid (fun (W : World) (hW : Below w.heap.size w W) => sameBytes_any W Ad nd cd Bd md dd data data' hD.len.out kD.len.out (hD.up hW).byt (kD.up hW).byt hda hdb)
  have HSC := Lib.hid (fun (W : World) (hW : Below w.heap.size w W) => sameBytes_any W Ac nc cc Bc mc dc code code' hC.len.out kC.len.out (hC.up hW).byt (kC.up hW).byt hca hcb)
  have HST := Lib.hid (fun (W : World) (hW : Below w.heap.size w W) => sameTables_any W At nt ct Bt mt dt tabs tabs' (hT.up hW) (kT.up hW) (by have := hT.len.out; omega) (by have := kT.len.out; omega))
  obtain ⟨X, hX⟩ : ∃ X, X = pkF lo hi (.slice Ad nd cd) (.slice At nt ct) (.slice Ac nc cc) := ⟨_, rfl⟩
  obtain ⟨Y, hY⟩ : ∃ Y, Y = pkF lo' hi' (.slice Bd md dd) (.slice Bt mt dt) (.slice Bc mc dc) := ⟨_, rfl⟩
  rw [← hX, ← hY]
  have HX := Lib.hid hX
  have HY := Lib.hid hY
  clear hX hY hD hT hC kD kT kC hda hca hdb hcb hta htb
  obtain ⟨r, hr⟩ : ∃ r, r = samePk ⟨lo, hi, data, tabs, code⟩ ⟨lo', hi', data', tabs', code'⟩ := ⟨_, rfl⟩
  rw [← hr]
  have HRV := Lib.hid (show r = (decide (lo = lo') && (decide (hi = hi') && (decide (data = data') && (decide (tabs = tabs') && decide (code = code'))))) from hr)
  clear hr
  go_enter Tryd.func14, Tryd.ntmps14
  go_upto_region 1 with (first
    | (refine wpList_box_seg rfl _ (.tmp 0) rfl 5 X rfl ?_; intro w1 h1 hB1 hs1; clear hs1)
    | (refine wpList_box_seg rfl _ (.tmp 1) rfl 5 Y rfl ?_; intro w2 h2 hB2 hs2))
  obtain ⟨ga, hga⟩ : ∃ g, g = w.heap.size := ⟨_, rfl⟩
  obtain ⟨gb, hgb⟩ : ∃ g, g = w1.heap.size := ⟨_, rfl⟩
  rw [← hga] at h1 ⊢
  rw [← hgb] at h2 ⊢
  have HB := Lib.hid (show Below w.heap.size w w2 from hB1.trans (hB2.mono hB1.size))
  have HFA := Lib.hid (h1.up hB2)
  have HFB := Lib.hid h2
  have HCA := Lib.hid (show ∀ W, Below w2.heap.size w2 W → W.cell? ⟨ga, 0, none⟩ = some (.int .i64 lo) ∧ W.cell? ⟨ga, 1, none⟩ = some (.int .i64 hi) ∧ W.cell? ⟨ga, 2, none⟩ = some (.slice Ad nd cd) ∧ W.cell? ⟨ga, 3, none⟩ = some (.slice At nt ct) ∧ W.cell? ⟨ga, 4, none⟩ = some (.slice Ac nc cc) from fun W hW => by
    have h3 := HFA.out.up hW
    rw [HX.out] at h3
    exact ⟨h3.cell 0 (by decide), h3.cell 1 (by decide), h3.cell 2 (by decide), h3.cell 3 (by decide), h3.cell 4 (by decide)⟩)
  have HCB := Lib.hid (show ∀ W, Below w2.heap.size w2 W → W.cell? ⟨gb, 0, none⟩ = some (.int .i64 lo') ∧ W.cell? ⟨gb, 1, none⟩ = some (.int .i64 hi') ∧ W.cell? ⟨gb, 2, none⟩ = some (.slice Bd md dd) ∧ W.cell? ⟨gb, 3, none⟩ = some (.slice Bt mt dt) ∧ W.cell? ⟨gb, 4, none⟩ = some (.slice Bc mc dc) from fun W hW => by
    have h3 := HFB.out.up hW
    rw [HY.out] at h3
    exact ⟨h3.cell 0 (by decide), h3.cell 1 (by decide), h3.cell 2 (by decide), h3.cell 3 (by decide), h3.cell 4 (by decide)⟩)
  obtain ⟨x0, x1, x2, x3, x4⟩ := HCA.out w2 (Below.refl _ _)
  obtain ⟨y0, y1, y2, y3, y4⟩ := HCB.out w2 (Below.refl _ _)
  clear h1 hB1 h2 hB2 hs2 hga hgb
  have HSD2 := Lib.hid (HSD.out w2 HB.out)
  have HST2 := Lib.hid (HST.out w2 HB.out)
  clear HSD HST
  by_cases e0 : lo = lo'
  case neg =>
    have t0 : (lo == lo') = false := by rw [beq_eq_false_iff_ne]; exact e0
    rw [decide_eq_false e0] at HRV
    clear e0
    go_wp2_with fail
    go_ret
    exact ⟨ret_bool (by rw [HRV.out]; rfl), HB.out⟩
  have t0 : (lo == lo') = true := by rw [beq_iff_eq]; exact e0
  rw [decide_eq_true e0] at HRV
  clear e0
  by_cases e1 : hi = hi'
  case neg =>
    have t1 : (hi == hi') = false := by rw [beq_eq_false_iff_ne]; exact e1
    rw [decide_eq_false e1] at HRV
    clear e1
    go_wp2_with fail
    go_ret
    exact ⟨ret_bool (by rw [HRV.out]; rfl), HB.out⟩
  have t1 : (hi == hi') = true := by rw [beq_iff_eq]; exact e1
  rw [decide_eq_true e1] at HRV
  clear e1
  cases e2 : decide (data = data')
  case false =>
    rw [e2] at HSD2 HRV
    clear e2
    go_wp2_with (go_at_call 29; refine HSD2.out.mono ?_; rintro e u ⟨rfl, rfl⟩)
    go_ret
    exact ⟨ret_bool (by rw [HRV.out]; rfl), HB.out⟩
  rw [e2] at HSD2 HRV
  clear e2
  cases e3 : decide (tabs = tabs')
  case false =>
    rw [e3] at HST2 HRV
    clear e3
    go_wp2_with (first
      | (go_at_call 29; refine HSD2.out.mono ?_; rintro e u ⟨rfl, rfl⟩)
      | (go_at_call 43; refine HST2.out.mono ?_; rintro e w3 ⟨rfl, hB3⟩))
    go_ret
    exact ⟨ret_bool (by rw [HRV.out]; rfl), HB.out.trans (hB3.mono HB.out.size)⟩
  rw [e3] at HST2 HRV
  clear e3
  go_wp2_with (first
    | (go_at_call 29; refine HSD2.out.mono ?_; rintro e u ⟨rfl, rfl⟩)
    | (go_at_call 43; refine HST2.out.mono ?_; rintro e w3 ⟨rfl, hB3⟩; obtain ⟨z0, z1, z2, z3, z4⟩ := HCA.out w3 hB3; obtain ⟨s0, s1, s2, s3, s4⟩ := HCB.out w3 hB3; have HB3 := Lib.hid hB3)
    | (go_at_call 29; refine (HSC.out w3 (HB.out.trans (HB3.out.mono HB.out.size))).mono ?_; rintro e u ⟨rfl, rfl⟩))
  go_ret
  exact ⟨ret_bool (by rw [HRV.out]; rfl), HB.out.trans (HB3.out.mono HB.out.size)⟩
theorem num_errno (e : Int) (w : World) : Calls Tryd.prog 16 #[.int .i64 e] w fun r w' => r = .returned (.int .i64 e) ∧ w = w' := by
  go_enter Tryd.func16, Tryd.ntmps16
  go_wp2_with fail
  go_ret
  exact ⟨rfl, rfl⟩
end Go.Proofs.YtlodoinmippebaaDoor.Pak
/- Package pack: what every program answers that is one. -/
namespace Go.Proofs.YtlodoinmippebaaDoor.Pak
open Go.ChangeShapes Go.WideShapes Go.ChangeAt Go.RowKit
set_option linter.unusedVariables false
set_option linter.unusedSimpArgs false
set_option maxRecDepth 100000
def k0 : Pk := ⟨1, 258, [7], [], []⟩
def k0L : List Int := encW k0
theorem k0_len : k0L.length = 21 := by kernel_rfl
theorem k0_sizes : sizesE 1 258 [] 1 = 0 := by kernel_rfl
theorem k0_enc : encE k0 = 0 := by
  unfold encE
  rw [if_neg (by rw [show sizesE k0.lo k0.hi k0.tabs k0.data.length = 0 from k0_sizes]; simp), if_neg (by rw [show (encW k0).length = 21 from k0_len]; decide)]
theorem k0_dec : decP k0L = .ok k0 := back k0_enc
theorem k0_at : k0L[8]? = some 1 ∧ k0L[10]? = some 2 ∧ k0L[16]? = some 7 := ⟨by kernel_rfl, by kernel_rfl, by kernel_rfl⟩
theorem k0_bytes : Bytes k0L := enc_bytes (by intro x hx; simp [k0] at hx; unfold IsB; omega) Bytes.nil
theorem k0_pkAt (w : World) : PkAt (w.alloc (.cells #[.int .u8 7] 5)) (.slice (some ⟨w.heap.size, 0, none⟩) 1 1) (.slice none 0 0) (.slice none 0 0) k0 :=
  ⟨⟨_, 1, 1, rfl, ⟨Lib.hid rfl, Nat.le_refl _, bytes_box w 7, fun b off e => by injection e with e; injection e with e1; subst e1; simp⟩⟩,
   ⟨none, 0, 0, rfl, ⟨Lib.hid rfl, Nat.le_refl _, fun hp => absurd hp (by simp [k0])⟩⟩,
   ⟨none, 0, 0, rfl, ⟨Lib.hid rfl, Nat.le_refl _, fun hp => absurd hp (by simp [k0]), fun b off e => by cases e⟩⟩⟩
set_option maxHeartbeats 8000000 in
theorem awake_any (w : World) : Calls Tryd.prog 8 #[] w (RetB w (.bool true)) := by
  go_enter Tryd.func8, Tryd.ntmps8
  have HEN := Lib.hid (encode_any (w.alloc (.cells #[.int .u8 7] 5)) k0 _ _ _ (k0_pkAt w) (by intro x hx; simp [k0] at hx; unfold IsB; omega) Bytes.nil (by simp [k0]) (by simp [k0]))
  have HB1 := Lib.hid (below_box w (.cells #[.int .u8 7] 5))
  obtain ⟨w1, hw1⟩ : ∃ u, u = w.alloc (.cells #[.int .u8 7] 5) := ⟨_, rfl⟩
  have hal : ∀ gs, gs = w.heap.size → True := fun _ _ => trivial
  rw [← hw1] at HEN HB1
  have HW1 := Lib.hid hw1
  clear hal hw1
  go_upto_region 2 with (go_at_call 28; rw [← HW1.out]; refine HEN.out.mono ?_; rintro e w2 ⟨hB2, v, rfl, hv⟩; rw [k0_enc, if_pos rfl] at hv; rw [k0_enc]; have HO := Lib.hid hv; have HB2 := Lib.hid (HB1.out.trans (hB2.mono HB1.out.size)); clear hv hB2; obtain ⟨A, n, c, rfl, hSl⟩ := own_full HO.out; have HSl := Lib.hid hSl; clear hSl)
  obtain rfl : n = 21 := by rw [← HSl.out.len.out]; exact k0_len
  obtain ⟨b, off, rfl, hbl, hcell⟩ := HSl.out.byt (by rw [show (encW k0).length = 21 from k0_len]; decide)
  have hc := HSl.out.cap
  have c8 : w2.cell? ⟨b, off + 8, none⟩ = some (.int .u8 1) := by rw [hcell 8 (by rw [show (encW k0).length = 21 from k0_len]; decide)]; rw [show (encW k0)[8]? = some 1 from k0_at.1]; rfl
  have c10 : w2.cell? ⟨b, off + 10, none⟩ = some (.int .u8 2) := by rw [hcell 10 (by rw [show (encW k0).length = 21 from k0_len]; decide)]; rw [show (encW k0)[10]? = some 2 from k0_at.2.1]; rfl
  have c16 : w2.cell? ⟨b, off + 16, none⟩ = some (.int .u8 7) := by rw [hcell 16 (by rw [show (encW k0).length = 21 from k0_len]; decide)]; rw [show (encW k0)[16]? = some 7 from k0_at.2.2]; rfl
  have HDE := Lib.hid (decode_any w2 (some ⟨b, off, none⟩) 21 c (encW k0) HSl.out k0_bytes (by decide))
  rw [show decP (encW k0) = .ok k0 from k0_dec] at HDE
  clear hcell HEN HW1
  go_upto_region 4 with (go_at_call 16; refine (num_errno _ _).mono ?_; rintro e u ⟨rfl, rfl⟩)
  clear c8 c10 c16 hc
  go_upto_region 5 with (first
    | (go_at_call 26; refine HDE.out.mono ?_; rintro e w3 ⟨hB3, vd, vt, vc, rfl, hd, ht, hc⟩)
    | (refine wpList_alloc_seg rfl 25 rfl 5 zeroPkF zeroPk ?_; intro w4 h4 hB4 hs4)
    | (refine wpList_store_all rfl 25 _ _ rfl w3.heap.size 25 5 _ (pkF k0.lo k0.hi vd vt vc) rfl rfl h4 sizePk (pkF_one (ownB_one hd) (ownT_form ht) (ownB_one hc)) ?_; intro w5 h5 hT5 hs5))
  obtain ⟨g, hg⟩ : ∃ g, g = w3.heap.size := ⟨_, rfl⟩
  have hb5 : Below w3.heap.size w3 w5 := hB4.trans (hT5.below (Nat.le_refl _) hB4.size)
  rw [← hg] at h5 ⊢
  obtain ⟨Ad, nd, cd, hvd, hsd⟩ := own_full hd
  obtain ⟨Ac, nc, cc, hvc, hsc⟩ := own_full hc
  have hnd : nd = 1 := by rw [← hsd.len.out]; rfl
  have hnc : nc = 0 := by rw [← hsc.len.out]; rfl
  have x1 : w5.cell? ⟨g, 1, none⟩ = some (.int .i64 258) := h5.cell 1 (by decide)
  have x2 : w5.cell? ⟨g, 2, none⟩ = some (.slice Ad 1 cd) := by rw [h5.cell 2 (by decide), ← hnd, ← hvd]; rfl
  have x4 : w5.cell? ⟨g, 4, none⟩ = some (.slice Ac 0 cc) := by rw [h5.cell 4 (by decide), ← hnc, ← hvc]; rfl
  have HB5 := Lib.hid ((HB2.out.trans (hB3.mono HB2.out.size)).trans (hb5.mono (Nat.le_trans HB2.out.size hB3.size)))
  clear hB3 hd ht hc h4 hB4 hs4 h5 hT5 hs5 hg hb5 hvd hvc hsd hsc hnd hnc
  go_wp2_with (go_at_call 16; refine (num_errno _ _).mono ?_; rintro e u ⟨rfl, rfl⟩)
  go_ret
  exact ⟨rfl, HB5.out⟩
end Go.Proofs.YtlodoinmippebaaDoor.Pak
/- Package pack: a container made, turned in one byte, and read. -/
namespace Go.Proofs.YtlodoinmippebaaDoor.Pak
open Go.ChangeShapes Go.WideShapes Go.ChangeAt Go.RowKit
set_option linter.unusedVariables false
set_option linter.unusedSimpArgs false
set_option maxRecDepth 100000
structure Small (k : Pk) : Prop where
  data : k.data.length ≤ 140737488355328
  code : k.code.length ≤ 140737488355328
  tabs : k.tabs.length ≤ 8796093022208
  bd : Bytes k.data
  bc : Bytes k.code
theorem enc_form {w : World} {w0 : Nat} {k : Pk} {v : Value} (h : if encE k = 0 then OwnB w w0 v (encW k) else v = .slice none 0 0) :
    ∃ A n c, v = .slice A n c ∧ (encE k = 0 → Sl w A n c (encW k)) ∧ (encE k ≠ 0 → n = 0) := by
  by_cases he : encE k = 0
  · rw [if_pos he] at h
    obtain ⟨A, n, c, hv, hs⟩ := own_full h
    exact ⟨A, n, c, hv, fun _ => hs, fun h0 => absurd he h0⟩
  · rw [if_neg he] at h
    exact ⟨none, 0, 0, h, fun h0 => absurd h0 he, fun _ => rfl⟩
/-- A container copied and made: what both laws begin with. -/
def MadeAt (w : World) (k : Pk) (A : Option Addr) (n c : Nat) : Prop := (encE k = 0 → Sl w A n c (encW k)) ∧ (encE k ≠ 0 → n = 0)
theorem MadeAt.up {w w' : World} {k : Pk} {A : Option Addr} {n c : Nat} (h : MadeAt w k A n c) (hb : Below w.heap.size w w') : MadeAt w' k A n c := ⟨fun h0 => (h.1 h0).up hb, h.2⟩
theorem and62 (a : Int) : ∃ m : Nat, bits BinOp.and IntKind.i64 a 4611686018427387903 = (m : Int) ∧ m ≤ 4611686018427387903 := by
  refine ⟨(BitVec.ofInt 64 a &&& BitVec.ofInt 64 4611686018427387903).toNat, ?_, ?_⟩
  · show IntKind.i64.wrap (((BitVec.ofInt 64 a &&& BitVec.ofInt 64 4611686018427387903).toNat : Nat) : Int) = _
    have h : (BitVec.ofInt 64 a &&& BitVec.ofInt 64 4611686018427387903).toNat ≤ 4611686018427387903 := by
      rw [BitVec.toNat_and]
      exact Nat.le_trans Nat.and_le_right (by decide)
    generalize (BitVec.ofInt 64 a &&& BitVec.ofInt 64 4611686018427387903).toNat = m at *
    simp [IntKind.wrap, IntKind.bits, IntKind.signed]
    omega
  · rw [BitVec.toNat_and]
    exact Nat.le_trans Nat.and_le_right (by decide)
theorem xor_u8 (a b : Nat) (ha : a < 256) (hb : b < 256) : bits BinOp.xor IntKind.u8 (a : Int) (b : Int) = ((a ^^^ b : Nat) : Int) := by
  show IntKind.u8.wrap (((BitVec.ofInt 8 (a : Int) ^^^ BitVec.ofInt 8 (b : Int)).toNat : Nat) : Int) = _
  rw [BitVec.toNat_xor, BitVec.toNat_ofInt, BitVec.toNat_ofInt, u8_wrap]
  have e1 : ((a : Int) % ((2 ^ 8 : Nat) : Int)).toNat = a := by omega
  have e2 : ((b : Int) % ((2 ^ 8 : Nat) : Int)).toNat = b := by omega
  rw [e1, e2]
  have h := Nat.xor_lt_two_pow (n := 8) ha hb
  omega
theorem flip_u8 (x : Int) (z : Nat) (hx : 0 ≤ x ∧ x < 256) (hz : 1 ≤ z ∧ z ≤ 255) : IsB (bits BinOp.xor IntKind.u8 x (z : Int)) ∧ bits BinOp.xor IntKind.u8 x (z : Int) ≠ x := by
  obtain ⟨a, rfl⟩ : ∃ a : Nat, x = a := ⟨x.toNat, by omega⟩
  rw [xor_u8 a z (by omega) (by omega)]
  have h := Nat.xor_lt_two_pow (n := 8) (x := a) (y := z) (by omega) (by omega)
  refine ⟨⟨by omega, by omega⟩, fun e => ?_⟩
  have e2 : a ^^^ z = a := by omega
  have e3 : a ^^^ (a ^^^ z) = 0 := by rw [e2, Nat.xor_self]
  rw [← Nat.xor_assoc, Nat.xor_self, Nat.zero_xor] at e3
  omega
theorem own_new {w : World} {base : Nat} {v : Value} {L : List Int} (h : OwnB w base v L) (hL : 0 < L.length) : ∃ g c, v = .slice (some ⟨g, 0, none⟩) L.length c ∧ base ≤ g ∧ Sl w (some ⟨g, 0, none⟩) L.length c L ∧ ∀ i, w.frozen? ⟨g, i, none⟩ = false := by
  obtain ⟨A, n, c, hv, hs⟩ := own_full h
  have hn := hs.len.out
  subst hn
  rcases h.2 with ⟨hv', hn⟩ | ⟨g, cap, cur, hv', hg, hh, -⟩
  · omega
  · subst hv
    injection hv' with h1 h2 h3
    subst h1
    exact ⟨g, c, rfl, hg, hs, fun i => by simp [World.frozen?, hh]⟩
theorem sl_set {w : World} {g n c : Nat} {L : List Int} (h : Sl w (some ⟨g, 0, none⟩) n c L) (i : Nat) (y : Int) (hi : i < n) : Sl (w.setCell ⟨g, i, none⟩ (.int .u8 y)) (some ⟨g, 0, none⟩) n c (L.set i y) := by
  have hl := h.len.out
  obtain ⟨b, off, e, hb, hc⟩ := h.byt (by omega)
  injection e with e
  injection e with e1 e2
  subst e1 e2
  refine ⟨Lib.hid (by rw [List.length_set]; exact hl), h.cap, fun hp => ⟨g, 0, rfl, by simpa [World.setCell] using hb, fun j => ?_⟩, fun b off e => by injection e with e; injection e with e1 e2; subst e1; simpa [World.setCell] using hb⟩
  intro hj
  rw [List.length_set] at hj
  by_cases hji : j = i
  · subst hji
    rw [Nat.zero_add]
    have h0 := hc j (by omega)
    rw [Nat.zero_add] at h0
    rw [World.cell?_setCell_same' _ _ _ (by rw [h0]; rfl)]
    simp [hj]
  · rw [World.cell?_setCell_other _ _ _ _ (by intro e; injection e with e1 e2; omega), hc j hj]
    rw [List.getElem?_set_ne (fun e => hji e.symm)]
theorem none_at (w : World) : PkAt w (.slice none 0 0) (.slice none 0 0) (.slice none 0 0) Pk.none :=
  ⟨⟨none, 0, 0, rfl, ⟨Lib.hid rfl, Nat.le_refl _, fun hp => absurd hp (by simp [Pk.none]), fun b off e => by cases e⟩⟩,
   ⟨none, 0, 0, rfl, ⟨Lib.hid rfl, Nat.le_refl _, fun hp => absurd hp (by simp [Pk.none])⟩⟩,
   ⟨none, 0, 0, rfl, ⟨Lib.hid rfl, Nat.le_refl _, fun hp => absurd hp (by simp [Pk.none]), fun b off e => by cases e⟩⟩⟩
theorem sameNone_any (w : World) : Calls Tryd.prog 14 #[.agg #[.int .i64 0, .int .i64 0, .slice none 0 0, .slice none 0 0, .slice none 0 0], .agg #[.int .i64 0, .int .i64 0, .slice none 0 0, .slice none 0 0, .slice none 0 0]] w (RetB w (.bool true)) :=
  samePack_any w Pk.none Pk.none _ _ _ _ _ _ (none_at w) (none_at w) Bytes.nil Bytes.nil Bytes.nil Bytes.nil (by simp [Pk.none]) (by simp [Pk.none])
end Go.Proofs.YtlodoinmippebaaDoor.Pak
