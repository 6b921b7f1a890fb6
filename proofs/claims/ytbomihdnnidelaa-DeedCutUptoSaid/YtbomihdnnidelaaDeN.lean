/- Package deed: Decode. -/
import Derived.Test.YtbomihdnnidelaaDeL2
namespace Go.Proofs.Ytbomihdnnidelaa
open Go.ChangeShapes Go.WideShapes Go.ChangeAt Go.RowKit
open Dee
set_option linter.unusedVariables false
set_option linter.unusedSimpArgs false
set_option maxRecDepth 100000
/-! a fault has a number -/
def NZ {α : Type} (r : Rs α) : Prop := ∀ lf er, r = .error (lf, er) → er ≠ 0
theorem NZ.ok {α : Type} (x : α × List Int) : NZ (.ok x : Rs α) := fun _ _ h => by cases h
theorem NZ.err {α : Type} (lf : Nat) (er : Int) (h : er ≠ 0) : NZ (.error (lf, er) : Rs α) := fun _ _ e => by injection e with e; injection e with _ e; rw [← e]; exact h
theorem NZ.bnd {α β : Type} {r : Rs α} {f : α → List Int → Rs β} (h : NZ r) (k : ∀ a t, NZ (f a t)) : NZ (Dee.bnd r f) := by
  cases r with
  | error x =>
    intro lf er e
    have e2 : (Except.error x : Rs β) = .error (lf, er) := e
    injection e2 with e3
    exact h lf er (by rw [e3])
  | ok x => obtain ⟨a, t⟩ := x; exact k a t
theorem nz_byte (may : Int → Bool) (er : Int) (h : er ≠ 0) (L : List Int) : NZ (byteR may er L) := by
  cases L with
  | nil => exact NZ.err _ _ (by decide)
  | cons b t =>
    show NZ (if may b = true then _ else _)
    split
    · exact NZ.ok _
    · exact NZ.err _ _ h
theorem nz_grp (fr f : Nat) : ∀ (a : Int) (L : List Int), NZ (grp fr f a L) := by
  induction f with
  | zero => intro a L; exact NZ.err _ _ (by decide)
  | succ f ih =>
    intro a L
    cases L with
    | nil => exact NZ.err _ _ (by decide)
    | cons b t =>
      unfold grp
      split
      · split
        · exact NZ.ok _
        · exact NZ.err _ _ (by decide)
      · exact ih _ _
theorem nz_num (may : Int → Bool) (er : Int) (h : er ≠ 0) (L : List Int) : NZ (numR may er L) :=
  (nz_grp _ _ _ _).bnd fun a t => by split; exact NZ.ok _; exact NZ.err _ _ h
theorem nz_sgn (may : Int → Bool) (er : Int) (h : er ≠ 0) (L : List Int) : NZ (sgnR may er L) :=
  (nz_grp _ _ _ _).bnd fun a t => by split; exact NZ.ok _; exact NZ.err _ _ h
theorem nz_many {α : Type} {p : List α → List Int → Rs α} (h : ∀ l L, NZ (p l L)) : ∀ (n : Nat) (l : List α) (L : List Int), NZ (manyR p n l L)
  | 0, l, L => NZ.ok _
  | n + 1, l, L => (h l L).bnd fun a t => nz_many h n (l ++ [a]) t
theorem nz_count {α : Type} (m : Int) {p : List α → List Int → Rs α} (h : ∀ l L, NZ (p l L)) (L : List Int) : NZ (countR m p L) := (nz_num _ _ (by decide) L).bnd fun a t => nz_many h _ _ _
theorem nz_tag (s : Bool) (L : List Int) : NZ (tagR s L) := (nz_byte _ _ (by decide) L).bnd fun k t => by
  have : NZ (tailR s k t) := by
    unfold tailR
    split
    · exact (nz_byte _ _ (by decide) _).bnd fun _ _ => NZ.ok _
    · split
      · exact (nz_byte _ _ (by decide) _).bnd fun _ _ => NZ.ok _
      · exact NZ.ok _
  exact this.bnd fun _ _ => NZ.ok _
theorem nz_loop (L : List Int) : NZ (loopR L) := (nz_num _ _ (by decide) _).bnd fun _ _ => (nz_num _ _ (by decide) _).bnd fun _ _ => (nz_num _ _ (by decide) _).bnd fun _ _ => (nz_sgn _ _ (by decide) _).bnd fun _ _ => (nz_num _ _ (by decide) _).bnd fun _ _ => NZ.ok _
theorem nz_ent (l : List Ent) (L : List Int) : NZ (entR l L) := (nz_byte _ _ (by decide) _).bnd fun _ _ => by
  split
  · exact (nz_tag _ _).bnd fun _ _ => NZ.ok _
  · exact NZ.err _ _ (by decide)
theorem nz_con (l : List Con) (L : List Int) : NZ (conR l L) := (nz_byte _ _ (by decide) _).bnd fun _ _ => (nz_byte _ _ (by decide) _).bnd fun _ _ => by
  split
  · exact (nz_sgn _ _ (by decide) _).bnd fun _ _ => NZ.ok _
  · exact NZ.err _ _ (by decide)
theorem nz_cl (L : List Int) : NZ (clR L) := (nz_byte _ _ (by decide) _).bnd fun _ _ => by
  split
  · exact NZ.ok _
  · exact (nz_many (fun _ _ => nz_tag _ _) _ _ _).bnd fun _ _ => (nz_count _ nz_ent _).bnd fun _ _ => (nz_count _ nz_con _).bnd fun _ _ => NZ.ok _
theorem nz_end (L : List Int) : NZ (endR L) := by
  have h1 : NZ (markR L) := by
    unfold markR
    split
    · exact NZ.err _ _ (by decide)
    · split
      · exact NZ.ok _
      · exact NZ.err _ _ (by decide)
  exact (h1.bnd fun _ _ => (nz_count _ (fun _ _ => nz_loop _) _).bnd fun _ _ => (nz_count _ (fun _ _ => nz_cl _) _).bnd fun _ _ => NZ.ok _).bnd fun _ _ => by
    split
    · exact NZ.ok _
    · exact NZ.err _ _ (by decide)
/-- what Decode answers of bytes: a deed, or the byte that is wrong and the fault -/
def decD (L : List Int) : Except (Nat × Int) De := if 4194304 < L.length then .error (0, 2) else match endR L with
  | .ok (d, _) => .ok d
  | .error (lf, er) => .error (L.length - lf, er)
def nilDeed : Value := .agg #[.slice none 0 0, .slice none 0 0]
/-- a deed in memory -/
structure DeedIn (w : World) (base : Nat) (d : De) (vl vc : Value) (cvs : List Cv) : Prop where
  loops : OwnR 54 5 loF w base vl d.loops
  map : cvs.map Prod.fst = d.claims
  claims : OwnR 61 128 cvF w base vc cvs
  cons : ConsIn w base cvs
theorem DeedIn.up {w w' : World} {base : Nat} {d : De} {vl vc : Value} {cvs : List Cv} (h : DeedIn w base d vl vc cvs) (hb : Below w.heap.size w w') : DeedIn w' base d vl vc cvs := ⟨h.loops.up hb, h.map, h.claims.up hb, h.cons.up hb⟩
theorem DeedIn.base {w : World} {base base' : Nat} {d : De} {vl vc : Value} {cvs : List Cv} (h : DeedIn w base d vl vc cvs) (hb : base' ≤ base) : DeedIn w base' d vl vc cvs := ⟨h.loops.base hb, h.map, h.claims.base hb, fun p hp => (h.cons p hp).base hb⟩
theorem DeedIn.touch {w w' : World} {base g : Nat} {d : De} {vl vc : Value} {cvs : List Cv} {t : TypeId} {cs : Array Value} (h : DeedIn w base d vl vc cvs) (ht : Touch g w w') (hg : Blk w g t cs) (h1 : 54 ≠ t) (h2 : 61 ≠ t) (h3 : 63 ≠ t) : DeedIn w' base d vl vc cvs :=
  ⟨h.loops.touch ht (h.loops.ne hg h1), h.map, h.claims.touch ht (h.claims.ne hg h2), h.cons.touch ht hg h3⟩
def Decoded (w : World) (L : List Int) (e : Ending) (w' : World) : Prop :=
  Below w.heap.size w w' ∧ match decD L with
  | .ok d => ∃ vl vc cvs, e = .returned (.tuple #[.agg #[vl, vc], .int .i64 0, .int .i64 0]) ∧ DeedIn w' w.heap.size d vl vc cvs
  | .error (at_, er) => e = .returned (.tuple #[nilDeed, .int .i64 at_, .int .i64 er])
abbrev dclo (s : Nat) : List Deferred := [{ target := .fn (.func 36) #[.pointer (some ⟨s, 0, none⟩), .pointer (some ⟨s + 1, 0, none⟩), .pointer (some ⟨s + 1 + 1, 0, none⟩)], args := #[] }]
set_option maxHeartbeats 1000000 in
theorem dec_pan (w W : World) (L : List Int) (x : Nat) (y : Int) (fd : Nat → Value) (olda olde : Int) (tm : Array Value) (h2 : tm[2]?.getD undef = .pointer (some ⟨w.heap.size, 0, none⟩)) (h3 : tm[3]?.getD undef = .pointer (some ⟨w.heap.size + 1, 0, none⟩)) (h4 : tm[4]?.getD undef = .pointer (some ⟨w.heap.size + 1 + 1, 0, none⟩))
    (bd : FB W w.heap.size 26 2 fd) (ba : Blk W (w.heap.size + 1) 3 #[.int .i64 olda]) (be : Blk W (w.heap.size + 1 + 1) 29 #[.int .i64 olde]) (hB : Below w.heap.size w W) (hy : y ≠ 0) (hD : decD L = .error (x, y)) :
    bodyPostD Try.prog Try.f20 (Decoded w L) (.panic (fltV x y)) { tmps := tm, defers := dclo w.heap.size } W := by
  refine leaves_cons (f := 36) (args := #[.pointer (some ⟨w.heap.size, 0, none⟩), .pointer (some ⟨w.heap.size + 1, 0, none⟩), .pointer (some ⟨w.heap.size + 1 + 1, 0, none⟩)]) (by simp) (by simp [go_sem]) ?_
  refine (catch_pan w.heap.size (w.heap.size + 1) (w.heap.size + 1 + 1) x y olda olde hy fd [] _ bd ba be).mono ?_
  rintro e u' w'' ⟨rfl, rfl, hd, ha, he, hb⟩
  have r0 : w''.cell? ⟨w.heap.size, 0, none⟩ = some (.slice none 0 0) := hd.cell 0 (by decide)
  have r00 : w''.cell? ⟨w.heap.size, 1, none⟩ = some (.slice none 0 0) := hd.cell 1 (by decide)
  have r1 : w''.cell? ⟨w.heap.size + 1, 0, none⟩ = some (.int .i64 x) := ha.cell 0
  have r2 : w''.cell? ⟨w.heap.size + 1 + 1, 0, none⟩ = some (.int .i64 y) := he.cell 0
  have hfin : Decoded w L (.returned (.tuple #[nilDeed, .int .i64 x, .int .i64 y])) w'' := ⟨hB.trans (hb w.heap.size (Nat.le_refl _) (by omega) (by omega) hB.size), by rw [hD]⟩
  have HFIN := Lib.hid hfin
  unfold nilDeed at HFIN
  clear hfin hd ha he hb bd ba be hD hB hy
  simp [Leaves, settle, results, Try.results20, go_sem, h2, h3, h4, r0, r00, r1, r2]
  exact HFIN.out
set_option maxHeartbeats 4000000 in
theorem decode_any (w : World) (A : Option Addr) (n c : Nat) (L : List Int) (hL : L.length = n) (hc : n ≤ c) (hn : n ≤ 1152921504606846976) (hA : BytesAt w A L) (hAl : ∀ b off, A = some ⟨b, off, none⟩ → b < w.heap.size) (hB : Bytes L) :
    Calls Try.prog 20 #[.slice A n c] w (Decoded w L) := by
  have hmf : ∀ (fn : Fn) (first cap : Array Value) (w : World), (Instr.makeFunc fn first cap).run Try.prog w = .ok (.func fn first cap) w := fun _ _ _ _ => rfl
  have HL := Lib.hid hL
  have HA := Lib.hid hA
  have HAL := Lib.hid hAl
  have HBY := Lib.hid hB
  clear hL hA hAl hB
  go_enter_defers Try.func20, Try.ntmps20
  by_cases h22 : n ≤ 4194304
  · have t1 : decide (4194304 < (n : Int)) = false := decide_eq_false (by omega)
    have HDD := Lib.hid (show decD L = match endR L with | .ok (d, _) => .ok d | .error (lf, er) => .error (L.length - lf, er) by unfold decD; rw [if_neg (by have := HL.out; omega)])
    go_upto_region 5 with (fail)
    obtain ⟨W, hW⟩ : ∃ W, W = (((w.alloc (.cells #[.slice none 0 0, .slice none 0 0] 26)).alloc (.cells #[.int .i64 0] 3)).alloc (.cells #[.int .i64 0] 29)).alloc (.cells #[.slice A n c, .int .i64 0] 84) := ⟨_, rfl⟩
    have sz1 : (w.alloc (.cells #[.slice none 0 0, .slice none 0 0] 26)).heap.size = w.heap.size + 1 := by simp
    have sz2 : ((w.alloc (.cells #[.slice none 0 0, .slice none 0 0] 26)).alloc (.cells #[.int .i64 0] 3)).heap.size = w.heap.size + 1 + 1 := by simp
    have sz3 : (((w.alloc (.cells #[.slice none 0 0, .slice none 0 0] 26)).alloc (.cells #[.int .i64 0] 3)).alloc (.cells #[.int .i64 0] 29)).heap.size = w.heap.size + 1 + 1 + 1 := by simp
    have q0 : FB W w.heap.size 26 2 (deF (.slice none 0 0) (.slice none 0 0)) := by
      rw [hW]
      exact FB.alloc (FB.alloc (FB.alloc (FB.new w 26 2 (deF (.slice none 0 0) (.slice none 0 0))) _) _) _
    have q1 : Blk W (w.heap.size + 1) 3 #[.int .i64 0] := by
      rw [hW, ← sz1]
      exact ((Blk.new _ 3 #[.int .i64 0]).alloc _).alloc _
    have q2 : Blk W (w.heap.size + 1 + 1) 29 #[.int .i64 0] := by
      rw [hW, ← sz2]
      exact (Blk.new _ 29 #[.int .i64 0]).alloc _
    have q3 : Blk W (w.heap.size + 1 + 1 + 1) 84 #[.slice A n c, .int .i64 ((0 : Nat) : Int)] := by
      rw [hW, ← sz3]
      exact Blk.new _ 84 #[.slice A n c, .int .i64 0]
    have qB : Below w.heap.size w W := by
      rw [hW]
      exact ((((Below.refl _ w).alloc (Nat.le_refl _) _).alloc (by rw [sz1]; omega) _).alloc (by rw [sz2]; omega) _).alloc (by rw [sz3]; omega) _
    have HRD := Lib.hid (show Rd W (w.heap.size + 1 + 1 + 1) A n c L L from ⟨by rw [HL.out, Nat.sub_self]; exact q3, HA.out.below qB, fun b off e => by have := HAL.out b off e; omega, HL.out, HBY.out, by rw [HL.out, Nat.sub_self]; rfl, by rw [HL.out]; exact Nat.le_refl _⟩)
    have HQ0 := Lib.hid q0
    have HQ1 := Lib.hid q1
    have HQ2 := Lib.hid q2
    have HQB := Lib.hid qB
    rw [← hW]
    clear hW sz1 sz2 sz3 q0 q1 q2 q3 qB hmf
    go_wp2_with fail
    refine (deed_any W (w.heap.size + 1 + 1 + 1) A n c L h22 hc HRD.out).mono ?_
    intro e w1 hE
    have hT := hE.1
    have c0 := HQ0.out.touch hT (by omega)
    have c1 := HQ1.out.touch hT (by omega)
    have c2 := HQ2.out.touch hT (by omega)
    have cB : Below w.heap.size w w1 := HQB.out.trans (hT.below (by omega) HQB.out.size)
    cases hr : endR L with
    | error x =>
      obtain ⟨lf, er⟩ := x
      rw [hr] at hE
      obtain ⟨-, rfl⟩ := hE
      have hD := HDD.out
      rw [hr] at hD
      simp only at hD
      rw [HL.out] at hD
      exact dec_pan w w1 L _ er _ _ _ _ rfl rfl rfl c0 c1 c2 cB (nz_end L lf er hr) hD
    | ok x =>
      obtain ⟨d, t⟩ := x
      rw [hr] at hE
      obtain ⟨-, vl, vc, cvs, rfl, hlo, hmap, hcl, hcn, -⟩ := hE
      have hD := HDD.out
      rw [hr] at hD
      simp only at hD
      have HD := Lib.hid hD
      have HDI := Lib.hid (DeedIn.base (w := w1) ⟨hlo, hmap, hcl, hcn⟩ HQB.out.size)
      have HC0 := Lib.hid c0
      have HC1 := Lib.hid c1
      have HC2 := Lib.hid c2
      have HCB := Lib.hid cB
      have hO := deF_one hlo.one hcl.one
      clear hr hT c0 c1 c2 cB hlo hmap hcl hcn hD HQ0 HQ1 HQ2 HQB HRD HDD
      obtain ⟨F, hF⟩ : ∃ F, F = deF vl vc := ⟨_, rfl⟩
      rw [← hF] at hO ⊢
      have HO := Lib.hid hO
      have HF := Lib.hid hF
      clear hO hF
      have y1 : w1.cell? ⟨w.heap.size + 1, 0, none⟩ = some (.int .i64 0) := HC1.out.cell 0
      have g1 : w1.frozen? ⟨w.heap.size + 1, 0, none⟩ = false := HC1.out.frozen 0
      go_wp2_with (refine wpList_store_all rfl 26 _ _ rfl w.heap.size 26 2 _ F rfl rfl HC0.out sizeDeed HO.out ?_; intro w7 h7 hT7 hs7; have k1 : w7.cell? ⟨w.heap.size + 1, 0, none⟩ = some (.int .i64 0) := (HC1.out.touch hT7 (by omega)).cell 0; have p1 : w7.frozen? ⟨w.heap.size + 1, 0, none⟩ = false := (HC1.out.touch hT7 (by omega)).frozen 0; have k2 : w7.cell? ⟨w.heap.size + 1 + 1, 0, none⟩ = some (.int .i64 0) := (HC2.out.touch hT7 (by omega)).cell 0; have p2 : w7.frozen? ⟨w.heap.size + 1 + 1, 0, none⟩ = false := (HC2.out.touch hT7 (by omega)).frozen 0)
      obtain ⟨w9, hw9⟩ : ∃ w9, w9 = (w7.setCell ⟨w.heap.size + 1, 0, none⟩ (.int .i64 0)).setCell ⟨w.heap.size + 1 + 1, 0, none⟩ (.int .i64 0) := ⟨_, rfl⟩
      have b1 := HC1.out.touch hT7 (by omega)
      have b2 := HC2.out.touch hT7 (by omega)
      have hT8 : Touch (w.heap.size + 1) w7 (w7.setCell ⟨w.heap.size + 1, 0, none⟩ (.int .i64 0)) := Touch.set_ w7 0 _
      have hT9 : Touch (w.heap.size + 1 + 1) (w7.setCell ⟨w.heap.size + 1, 0, none⟩ (.int .i64 0)) w9 := by rw [hw9]; exact Touch.set_ _ 0 _
      have d7 := HDI.out.touch hT7 HC0.out (by decide) (by decide) (by decide)
      have d8 := d7.touch hT8 b1 (by decide) (by decide) (by decide)
      have d9 := d8.touch hT9 (b2.touch hT8 (by omega)) (by decide) (by decide) (by decide)
      have z0 := (h7.touch hT8 (by omega)).touch hT9 (by omega)
      have z1 : Blk w9 (w.heap.size + 1) 3 #[.int .i64 0] := (b1.set_ 0 _).touch hT9 (by omega)
      have z2 : Blk w9 (w.heap.size + 1 + 1) 29 #[.int .i64 0] := by rw [hw9]; exact (b2.touch hT8 (by omega)).set_ 0 _
      have zB : Below w.heap.size w w9 := ((HCB.out.trans (hT7.below (Nat.le_refl _) HCB.out.size)).trans (hT8.below (by omega) (Nat.le_trans HCB.out.size hT7.size))).trans (hT9.below (by omega) (Nat.le_trans HCB.out.size (Nat.le_trans hT7.size hT8.size)))
      rw [← hw9]
      clear hw9 b1 b2 hT8 hT9 d7 d8 h7 hT7 hs7 k1 p1 k2 p2 y1 g1 HC0 HC1 HC2 HCB HDI
      refine leaves_cons (f := 36) (args := #[.pointer (some ⟨w.heap.size, 0, none⟩), .pointer (some ⟨w.heap.size + 1, 0, none⟩), .pointer (some ⟨w.heap.size + 1 + 1, 0, none⟩)]) (by simp) (by simp [go_sem]) ?_
      refine (catch_idle _ _ _ w9).mono ?_
      rintro e u' w'' ⟨rfl, rfl, hb⟩
      have z0' := z0.up hb
      have r0 : w''.cell? ⟨w.heap.size, 0, none⟩ = some vl := by rw [z0'.cell 0 (by decide), HF.out]; rfl
      have r00 : w''.cell? ⟨w.heap.size, 1, none⟩ = some vc := by rw [z0'.cell 1 (by decide), HF.out]; rfl
      have r1 : w''.cell? ⟨w.heap.size + 1, 0, none⟩ = some (.int .i64 0) := (z1.below hb z1.lt).cell 0
      have r2 : w''.cell? ⟨w.heap.size + 1 + 1, 0, none⟩ = some (.int .i64 0) := (z2.below hb z2.lt).cell 0
      have hfin : Decoded w L (.returned (.tuple #[.agg #[vl, vc], .int .i64 0, .int .i64 0])) w'' := ⟨zB.trans (hb.mono zB.size), by rw [HD.out]; exact ⟨vl, vc, cvs, rfl, d9.up hb⟩⟩
      have HFIN := Lib.hid hfin
      clear hfin z0 z0' z1 z2 zB d9 hb HF HO HD
      simp [Leaves, settle, results, Try.results20, go_sem, r0, r00, r1, r2]
      exact HFIN.out
  · have t1 : decide (4194304 < (n : Int)) = true := decide_eq_true (by omega)
    have HD := Lib.hid (show decD L = .error (0, 2) by unfold decD; rw [if_pos (by have := HL.out; omega)])
    go_wp2_with fail
    have hfin : Decoded w L (.returned (.tuple #[nilDeed, .int .i64 0, .int .i64 2])) (((w.alloc (.cells #[.slice none 0 0, .slice none 0 0] 26)).alloc (.cells #[.int .i64 0] 3)).alloc (.cells #[.int .i64 2] 29)) := ⟨(((Below.refl _ w).alloc (Nat.le_refl _) _).alloc (by simp) _).alloc (by simp; omega) _, by rw [HD.out]; rfl⟩
    have HFIN := Lib.hid hfin
    unfold nilDeed at HFIN
    clear hfin HD hmf
    simp [bodyPostD, Leaves, settle, results, Try.results20, go_sem]
    exact HFIN.out
end Go.Proofs.Ytbomihdnnidelaa
