/- Warrants as bytes, plain mathematics: what a deed's bytes are, and what is read of bytes. No program is named. -/
import Derived.Test.YtbomihdnnidelaaDeM
namespace Go.Proofs.Ytbomihdnnidelaa.Dee
set_option linter.unusedVariables false
set_option linter.unusedSimpArgs false

/-- with one more question, whose fault lies where the thing begins -/
theorem Codec.test {α : Type} {p : List Int → Rs α} {w : α → List Int} {good : α → Prop} (h : Codec p w good) (may : α → Bool) (er : Int) :
    Codec (fun L => bnd (p L) fun a t => if may a = true then .ok (a, t) else .error (L.length, er)) w (fun x => good x ∧ may x = true) where
  back := fun x rest ⟨h1, h2⟩ => by show bnd (p (w x ++ rest)) _ = _; rw [h.back x rest h1, bnd_ok, if_pos h2]
  forth := fun L x rest hB e => by
    cases e1 : p L with
    | error y => rw [e1] at e; cases e
    | ok y =>
      obtain ⟨a, t⟩ := y
      rw [e1, bnd_ok] at e
      by_cases h2 : may a = true
      · rw [if_pos h2] at e
        injection e with e; injection e with e2 e3
        subst e2 e3
        obtain ⟨e4, h1⟩ := h.forth L a t hB e1
        exact ⟨e4, h1, h2⟩
      · rw [if_neg h2] at e; cases e
  cut := fun x u v ⟨h1, _⟩ e hv => by show bnd (p u) _ = _; rw [h.cut x u v h1 e hv]; rfl
  bytes := fun x ⟨h1, _⟩ => h.bytes x h1
theorem Codec.weaken {α : Type} {p : List Int → Rs α} {w : α → List Int} {good good' : α → Prop} (h : Codec p w good) (e : ∀ x, good' x ↔ good x) : Codec p w good' := by
  rw [show good' = good from funext fun x => propext (e x)]; exact h
theorem Codec.congr {α : Type} {p q : List Int → Rs α} {w v : α → List Int} {good : α → Prop} (h : Codec p w good) (e : ∀ L, q L = p L) (e2 : ∀ x, v x = w x) : Codec q v good := by
  rw [show q = p from funext e, show v = w from funext e2]; exact h

/-! the numbers that may stand in their places -/
def headB (n : Int) : Bool := decide (0 ≤ n) && decide (n ≤ 511)
def varB (n : Int) : Bool := decide (0 ≤ n) && decide (n ≤ 59)
def constB (n : Int) : Bool := decide (-1099511627776 ≤ n) && decide (n ≤ 1099511627776)
def fallB (n : Int) : Bool := decide (0 ≤ n) && decide (n ≤ 1099511627776)
def kindB (n : Int) : Bool := decide (0 ≤ n) && decide (n ≤ 6)
def tableB (n : Int) : Bool := decide (0 ≤ n) && decide (n ≤ 7)
def slotB (n : Int) : Bool := decide (0 ≤ n) && decide (n ≤ 31)
def writB (n : Int) : Bool := decide (1 ≤ n) && decide (n ≤ 255)
def tabledB (k : Int) : Bool := decide (k = 5) || decide (k = 6)
theorem headB_iff (n : Int) : headB n = true ↔ 0 ≤ n ∧ n ≤ 511 := by simp [headB]
theorem varB_iff (n : Int) : varB n = true ↔ 0 ≤ n ∧ n ≤ 59 := by simp [varB]
theorem constB_iff (n : Int) : constB n = true ↔ -1099511627776 ≤ n ∧ n ≤ 1099511627776 := by simp [constB]
theorem fallB_iff (n : Int) : fallB n = true ↔ 0 ≤ n ∧ n ≤ 1099511627776 := by simp [fallB]
theorem kindB_iff (n : Int) : kindB n = true ↔ 0 ≤ n ∧ n ≤ 6 := by simp [kindB]
theorem tableB_iff (n : Int) : tableB n = true ↔ 0 ≤ n ∧ n ≤ 7 := by simp [tableB]
theorem slotB_iff (n : Int) : slotB n = true ↔ 0 ≤ n ∧ n ≤ 31 := by simp [slotB]
theorem writB_iff (n : Int) : writB n = true ↔ 1 ≤ n ∧ n ≤ 255 := by simp [writB]
theorem tabledB_iff (n : Int) : tabledB n = true ↔ n = 5 ∨ n = 6 := by simp [tabledB]

/-! loops -/
structure Lp where
  h : Int
  a : Int
  b : Int
  k : Int
  d : Int
  deriving DecidableEq
def loopB (l : Lp) : Bool := headB l.h && (varB l.a && (varB l.b && (constB l.k && fallB l.d)))
def loopW (l : Lp) : List Int := num l.h.toNat ++ (num l.a.toNat ++ (num l.b.toNat ++ (num (zig l.k) ++ num l.d.toNat)))
def loopR (L : List Int) : Rs Lp := bnd (numR headB 113 L) fun h L1 => bnd (numR varB 113 L1) fun a L2 => bnd (numR varB 113 L2) fun b L3 => bnd (sgnR constB 113 L3) fun k L4 => bnd (numR fallB 113 L4) fun d L5 => .ok (⟨h, a, b, k, d⟩, L5)
theorem bnd_assoc {α β γ : Type} (x : Rs α) (f : α → List Int → Rs β) (g : β → List Int → Rs γ) : bnd (bnd x f) g = bnd x fun a t => bnd (f a t) g := by
  cases x with
  | error e => rfl
  | ok y => obtain ⟨a, t⟩ := y; rfl
theorem loop_codec : Codec loopR loopW (fun l => loopB l = true) := by
  have c1 := num_codec headB 113
  have c2 := num_codec varB 113
  have c4 := sgn_codec constB 113
  have c5 := num_codec fallB 113
  have h := c1.seq fun _ _ => c2.seq fun _ _ => c2.seq fun _ _ => c4.seq fun _ _ => c5
  refine h.map (fun x => ⟨x.1, x.2.1, x.2.2.1, x.2.2.2.1, x.2.2.2.2⟩) (fun l => (l.h, l.a, l.b, l.k, l.d)) (fun L => ?_) (fun l _ => rfl) (fun l _ => rfl) (fun x _ => rfl) (fun l hl => ?_) (fun x hx => ?_)
  · simp only [bnd_assoc, bnd_ok]; rfl
  · unfold loopB at hl
    simp only [Bool.and_eq_true] at hl
    obtain ⟨h1, h2, h3, h4, h5⟩ := hl
    have a1 := (headB_iff _).1 h1
    have a2 := (varB_iff _).1 h2
    have a3 := (varB_iff _).1 h3
    have a4 := (constB_iff _).1 h4
    have a5 := (fallB_iff _).1 h5
    exact ⟨⟨h1, by omega, by show l.h < _; omega⟩, ⟨h2, by show 0 ≤ l.a; omega, by show l.a < _; omega⟩, ⟨h3, by show 0 ≤ l.b; omega, by show l.b < _; omega⟩, ⟨h4, by show _ ≤ l.k; omega, by show l.k < _; omega⟩, ⟨h5, by show 0 ≤ l.d; omega, by show l.d < _; omega⟩⟩
  · obtain ⟨⟨h1, _⟩, ⟨h2, _⟩, ⟨h3, _⟩, ⟨h4, _⟩, ⟨h5, _⟩⟩ := hx
    unfold loopB
    dsimp only
    simp [h1, h2, h3, h4, h5]

/-! tags -/
structure Tag where
  k : Int
  t : Int
  m : Int
  deriving DecidableEq
def Tag.zero : Tag := ⟨0, 0, 0⟩
def tailW (slot : Bool) (k : Int) (x : Int × Int) : List Int := if tabledB k = true then [x.1] else if (slot && decide (k = 0)) = true then [x.2] else []
def tailR (slot : Bool) (k : Int) (L : List Int) : Rs (Int × Int) :=
  if tabledB k = true then bnd (byteR tableB 90 L) fun x s => .ok ((x, 0), s) else if (slot && decide (k = 0)) = true then bnd (byteR writB 90 L) fun x s => .ok ((0, x), s) else .ok ((0, 0), L)
def tailG (slot : Bool) (k : Int) (x : Int × Int) : Prop := if tabledB k = true then tableB x.1 = true ∧ x.2 = 0 else if (slot && decide (k = 0)) = true then x.1 = 0 ∧ writB x.2 = true else x = (0, 0)
theorem tail_codec (slot : Bool) (k : Int) : Codec (tailR slot k) (tailW slot k) (tailG slot k) := by
  by_cases h1 : tabledB k = true
  · refine (byte_codec tableB 90).map (fun x => (x, 0)) (fun x => x.1) (fun L => by unfold tailR; rw [if_pos h1]) (fun b _ => by unfold tailW; rw [if_pos h1]) (fun b hb => ?_) (fun a _ => rfl) (fun b hb => ?_) (fun a ha => ?_)
    · unfold tailG at hb; rw [if_pos h1] at hb
      obtain ⟨x, y⟩ := b
      show (x, (0 : Int)) = (x, y)
      rw [show y = 0 from hb.2]
    · unfold tailG at hb; rw [if_pos h1] at hb
      have := (tableB_iff _).1 hb.1
      exact ⟨hb.1, by omega, by omega⟩
    · unfold tailG; rw [if_pos h1]; exact ⟨ha.1, rfl⟩
  · by_cases h2 : (slot && decide (k = 0)) = true
    · refine (byte_codec writB 90).map (fun x => (0, x)) (fun x => x.2) (fun L => by unfold tailR; rw [if_neg h1, if_pos h2]) (fun b _ => by unfold tailW; rw [if_neg h1, if_pos h2]) (fun b hb => ?_) (fun a _ => rfl) (fun b hb => ?_) (fun a ha => ?_)
      · unfold tailG at hb; rw [if_neg h1, if_pos h2] at hb
        obtain ⟨x, y⟩ := b
        show ((0 : Int), y) = (x, y)
        rw [show x = 0 from hb.1]
      · unfold tailG at hb; rw [if_neg h1, if_pos h2] at hb
        have := (writB_iff _).1 hb.2
        exact ⟨hb.2, by omega, by omega⟩
      · unfold tailG; rw [if_neg h1, if_pos h2]; exact ⟨rfl, ha.1⟩
    · have h := Codec.pure ((0, 0) : Int × Int)
      refine (h.congr (q := tailR slot k) (v := tailW slot k) (fun L => by unfold tailR; rw [if_neg h1, if_neg h2]) (fun x => by unfold tailW; rw [if_neg h1, if_neg h2])).weaken fun x => by unfold tailG; rw [if_neg h1, if_neg h2]
def tagW (slot : Bool) (t : Tag) : List Int := t.k :: (if tabledB t.k = true then [t.t] else if (slot && decide (t.k = 0)) = true then [t.m] else [])
def tagR (slot : Bool) (L : List Int) : Rs Tag := bnd (byteR kindB 90 L) fun k L1 => bnd (tailR slot k L1) fun x L2 => .ok (⟨k, x.1, x.2⟩, L2)
/-- a tag that is written as it is -/
def toldB (slot : Bool) (t : Tag) : Bool := kindB t.k && (if tabledB t.k = true then tableB t.t && decide (t.m = 0) else if (slot && decide (t.k = 0)) = true then decide (t.t = 0) && writB t.m else decide (t.t = 0) && decide (t.m = 0))
theorem tag_codec (slot : Bool) : Codec (tagR slot) (tagW slot) (fun t => toldB slot t = true) := by
  have h := (byte_codec kindB 90).seq fun k (_ : goodB kindB k) => tail_codec slot k
  refine h.map (fun x => ⟨x.1, x.2.1, x.2.2⟩) (fun t => (t.k, t.t, t.m)) (fun L => ?_) (fun t _ => ?_) (fun t _ => rfl) (fun x _ => rfl) (fun t ht => ?_) (fun x hx => ?_)
  · simp only [bnd_assoc, bnd_ok]; rfl
  · rfl
  · unfold toldB at ht
    rw [Bool.and_eq_true] at ht
    obtain ⟨h1, h2⟩ := ht
    have a1 := (kindB_iff _).1 h1
    refine ⟨⟨h1, by show 0 ≤ t.k; omega, by show t.k < _; omega⟩, ?_⟩
    show tailG slot t.k (t.t, t.m)
    unfold tailG
    split at h2
    · rename_i h3; rw [if_pos h3]; simpa using h2
    · rename_i h3; rw [if_neg h3]
      split at h2
      · rename_i h4; rw [if_pos h4]; simpa using h2
      · rename_i h4; rw [if_neg h4]; simp at h2; simp [h2]
  · obtain ⟨⟨h1, _⟩, h2⟩ := hx
    change tailG slot x.1 x.2 at h2
    unfold tailG at h2
    unfold toldB
    dsimp only
    rw [h1]
    split at h2
    · rename_i h3; rw [if_pos h3]; simp [h2]
    · rename_i h3; rw [if_neg h3]
      split at h2
      · rename_i h4; rw [if_pos h4]; simp [h2]
      · rename_i h4; rw [if_neg h4]; simp [h2]

/-! n things behind their number -/
def mostB (most : Int) (n : Int) : Bool := decide (n ≤ most)
def countR {α : Type} (most : Int) (p : List α → List Int → Rs α) (L : List Int) : Rs (List α) := bnd (numR (mostB most) 112 L) fun n t => manyR p n.toNat [] t
theorem count_codec {α : Type} (most : Nat) (hm : most < 9223372036854775808) {p : List α → List Int → Rs α} {w : α → List Int} {good : List α → α → Prop} (h : ∀ l, Codec (p l) w (good l)) :
    Codec (countR most p) (fun l => num l.length ++ l.flatMap w) (fun l => l.length ≤ most ∧ ∀ k a, l[k]? = some a → good (l.take k) a) := by
  have c := (num_codec (mostB most) 112).seq fun n (_ : goodN (mostB most) n) => many_codec h n.toNat []
  refine c.map (fun x => x.2) (fun l => ((l.length : Int), l)) (fun L => ?_) (fun l _ => ?_) (fun l _ => rfl) (fun x hx => ?_) (fun l hl => ?_) (fun x hx => ?_)
  · simp only [bnd_assoc, bnd_ok]
    unfold countR
    congr 1
    funext n t
    cases manyR p n.toNat [] t with
    | error e => rfl
    | ok y => obtain ⟨a, s⟩ := y; rfl
  · simp
  · obtain ⟨⟨h1, h2, _⟩, h3, h4, h5⟩ := hx
    obtain ⟨n, l⟩ := x
    simp only [List.length_nil, Nat.zero_add] at h3
    show ((l.length : Int), l) = (n, l)
    have hn : 0 ≤ n := h2
    have : (l.length : Int) = n := by rw [show l.length = n.toNat from h3]; omega
    rw [this]
  · obtain ⟨h1, h2⟩ := hl
    refine ⟨⟨by unfold mostB; simp; omega, by simp, by show (l.length : Int) < _; omega⟩, by simp, by simp, fun k a _ ha => h2 k a ha⟩
  · obtain ⟨⟨h1, h2, _⟩, h3, h4, h5⟩ := hx
    simp only [List.length_nil, Nat.zero_add] at h3
    refine ⟨?_, fun k a ha => h5 k a (Nat.zero_le _) ha⟩
    unfold mostB at h1
    simp at h1
    omega

/-! a claim's slots -/
abbrev Ent := Int × Tag
def aheadN (l : List Ent) : Int := match l.getLast? with
  | some e => e.1
  | none => -1
def entR (l : List Ent) (L : List Int) : Rs Ent := bnd (byteR slotB 90 L) fun n t => if aheadN l < n then bnd (tagR true t) fun g s => .ok ((n, g), s) else .error (L.length, 111)
def entW (e : Ent) : List Int := e.1 :: tagW true e.2
def entG (l : List Ent) (e : Ent) : Prop := slotB e.1 = true ∧ aheadN l < e.1 ∧ toldB true e.2 = true
theorem ent_codec (l : List Ent) : Codec (entR l) entW (entG l) := by
  have h := ((byte_codec slotB 90).test (fun n => decide (aheadN l < n)) 111).seq fun n _ => tag_codec true
  refine h.map (fun x => x) (fun x => x) (fun L => ?_) (fun t _ => rfl) (fun t _ => rfl) (fun x _ => rfl) (fun t ht => ?_) (fun x hx => ?_)
  · unfold entR
    simp only [bnd_assoc, bnd_ok]
    congr 1
    funext n t
    by_cases hn : aheadN l < n
    · rw [if_pos hn, if_pos (by simpa using hn), bnd_ok]
    · rw [if_neg hn, if_neg (by simpa using hn)]; rfl
  · obtain ⟨h1, h2, h3⟩ := ht
    have a1 := (slotB_iff _).1 h1
    exact ⟨⟨⟨h1, by omega, by omega⟩, by simpa using h2⟩, h3⟩
  · obtain ⟨⟨⟨h1, _⟩, h2⟩, h3⟩ := hx
    exact ⟨h1, by simpa using h2, h3⟩

/-! constraints -/
structure Con where
  i : Int
  j : Int
  c : Int
  deriving DecidableEq
def risesB (ahead : List Con) (x : Con) : Bool := match ahead.getLast? with
  | some a => decide (x.i > a.i) || (decide (x.i = a.i) && decide (x.j > a.j))
  | none => true
def conB (x : Con) : Bool := varB x.i && (varB x.j && (!decide (x.i = x.j) && constB x.c))
def conR (l : List Con) (L : List Int) : Rs Con := bnd (byteR varB 91 L) fun i L1 => bnd (byteR (fun n => varB n && !decide (n = i)) 91 L1) fun j L2 => if risesB l ⟨i, j, 0⟩ = true then bnd (sgnR constB 91 L2) fun c L3 => .ok (⟨i, j, c⟩, L3) else .error (L.length, 111)
def conW (x : Con) : List Int := x.i :: x.j :: num (zig x.c)
def conG (l : List Con) (x : Con) : Prop := conB x = true ∧ risesB l x = true
theorem risesB_c (l : List Con) (i j c : Int) : risesB l ⟨i, j, c⟩ = risesB l ⟨i, j, 0⟩ := by unfold risesB; split <;> rfl
theorem con_codec (l : List Con) : Codec (conR l) conW (conG l) := by
  have h := (((byte_codec varB 91).seq fun i (_ : goodB varB i) => byte_codec (fun n => varB n && !decide (n = i)) 91).test (fun x => risesB l ⟨x.1, x.2, 0⟩) 111).seq fun _ _ => sgn_codec constB 91
  refine h.map (fun x => ⟨x.1.1, x.1.2, x.2⟩) (fun x => ((x.i, x.j), x.c)) (fun L => ?_) (fun t _ => rfl) (fun t _ => rfl) (fun x _ => rfl) (fun t ht => ?_) (fun x hx => ?_)
  · unfold conR
    simp only [bnd_assoc, bnd_ok]
    congr 1
    funext i t
    congr 1
    funext j s
    by_cases hn : risesB l ⟨i, j, 0⟩ = true
    · rw [if_pos hn, if_pos hn, bnd_ok]
    · rw [if_neg hn, if_neg hn]; rfl
  · obtain ⟨h1, h2⟩ := ht
    unfold conB at h1
    simp only [Bool.and_eq_true] at h1
    obtain ⟨b1, b2, b3, b4⟩ := h1
    have a1 := (varB_iff _).1 b1
    have a2 := (varB_iff _).1 b2
    have a4 := (constB_iff _).1 b4
    refine ⟨⟨⟨⟨b1, by show 0 ≤ t.i; omega, by show t.i < _; omega⟩, ⟨?_, by show 0 ≤ t.j; omega, by show t.j < _; omega⟩⟩, by show risesB l ⟨t.i, t.j, 0⟩ = true; rw [← risesB_c l t.i t.j t.c]; exact h2⟩, b4, by show _ ≤ t.c; omega, by show t.c < _; omega⟩
    show (varB t.j && !decide (t.j = t.i)) = true
    rw [b2]
    simp at b3 ⊢
    exact fun e => b3 e.symm
  · obtain ⟨⟨⟨⟨h1, _⟩, ⟨h2, _⟩⟩, h3⟩, h4, _⟩ := hx
    refine ⟨?_, by rw [risesB_c]; exact h3⟩
    unfold conB
    dsimp only
    rw [Bool.and_eq_true] at h2
    rw [h1, h2.1, h4]
    have := h2.2
    simp at this ⊢
    exact fun e => this e.symm

/-! claims and deeds, as they are written -/
structure Cl where
  dead : Bool
  regs : List Tag
  ents : List Ent
  cons : List Con
def deadCl : Cl := ⟨true, [], [], []⟩
def regsR : List Int → Rs (List Tag) := manyR (fun _ => tagR false) 10 []
def bodyW (x : Cl) : List Int := x.regs.flatMap (tagW false) ++ ((num x.ents.length ++ x.ents.flatMap entW) ++ (num x.cons.length ++ x.cons.flatMap conW))
def bodyR (L : List Int) : Rs Cl := bnd (regsR L) fun r L1 => bnd (countR 32 entR L1) fun e L2 => bnd (countR 3540 conR L2) fun c L3 => .ok (⟨false, r, e, c⟩, L3)
def entsG (l : List Ent) : Prop := l.length ≤ 32 ∧ ∀ (k : Nat) a, l[k]? = some a → entG (l.take k) a
def consG (l : List Con) : Prop := l.length ≤ 3540 ∧ ∀ (k : Nat) a, l[k]? = some a → conG (l.take k) a
def regsG (l : List Tag) : Prop := l.length = 10 ∧ ∀ (k : Nat) a, l[k]? = some a → toldB false a = true
def bodyG (x : Cl) : Prop := x.dead = false ∧ regsG x.regs ∧ entsG x.ents ∧ consG x.cons
theorem body_codec : Codec bodyR bodyW bodyG := by
  have c1 : Codec regsR (fun m => m.flatMap (tagW false)) regsG := by
    have h := many_codec (p := fun (_ : List Tag) => tagR false) (good := fun _ t => toldB false t = true) (fun _ => tag_codec false) 10 []
    refine (h.congr (q := regsR) (v := fun m => m.flatMap (tagW false)) (fun L => rfl) (fun x => by simp)).weaken fun x => ?_
    unfold regsG
    simp
  have c2 : Codec (countR 32 entR) (fun l => num l.length ++ l.flatMap entW) entsG := count_codec 32 (by decide) ent_codec
  have c3 : Codec (countR 3540 conR) (fun l => num l.length ++ l.flatMap conW) consG := count_codec 3540 (by decide) con_codec
  have h := c1.seq fun _ _ => c2.seq fun _ _ => c3
  refine h.map (fun x => ⟨false, x.1, x.2.1, x.2.2⟩) (fun x => (x.regs, x.ents, x.cons)) (fun L => ?_) (fun t _ => rfl) (fun t ht => ?_) (fun x _ => rfl) (fun t ht => ?_) (fun x hx => ?_)
  · unfold bodyR
    simp only [bnd_assoc, bnd_ok]
  · obtain ⟨d, r, e, c⟩ := t
    show (⟨false, r, e, c⟩ : Cl) = ⟨d, r, e, c⟩
    rw [show d = false from ht.1]
  · exact ht.2
  · exact ⟨rfl, hx⟩
def aliveB (n : Int) : Bool := decide (n = 0) || decide (n = 1)
def clR (L : List Int) : Rs Cl := bnd (byteR aliveB 110 L) fun n t => if n = 0 then .ok (deadCl, t) else bodyR t
def clW (x : Cl) : List Int := if x.dead = true then [0] else 1 :: bodyW x
def clG (x : Cl) : Prop := x = deadCl ∨ bodyG x
theorem cl_codec : Codec clR clW clG where
  back := fun x rest hx => by
    rcases hx with rfl | hx
    · rfl
    · unfold clW
      rw [if_neg (by rw [hx.1]; decide)]
      show bnd (.ok ((1 : Int), bodyW x ++ rest)) _ = _
      rw [bnd_ok, if_neg (by decide)]
      exact body_codec.back x rest hx
  forth := fun L x rest hB e => by
    cases L with
    | nil => cases e
    | cons b t =>
      change bnd (if aliveB b = true then .ok (b, t) else .error ((b :: t).length, 110)) _ = _ at e
      by_cases h : aliveB b = true
      · rw [if_pos h, bnd_ok] at e
        by_cases h0 : b = 0
        · rw [if_pos h0] at e
          injection e with e; injection e with e1 e2
          subst e1 e2 h0
          exact ⟨rfl, .inl rfl⟩
        · rw [if_neg h0] at e
          have h1 : b = 1 := by simp [aliveB] at h; omega
          obtain ⟨e1, hg⟩ := body_codec.forth t x rest hB.tail e
          refine ⟨?_, .inr hg⟩
          unfold clW
          rw [if_neg (by rw [hg.1]; decide), h1, e1]; rfl
      · rw [if_neg h] at e; cases e
  cut := fun x u v hx e hv => by
    rcases hx with rfl | hx
    · rw [cut_one e hv]; rfl
    · unfold clW at e
      rw [if_neg (by rw [hx.1]; decide)] at e
      cases u with
      | nil => rfl
      | cons b t =>
        rw [List.cons_append] at e
        injection e with e1 e2
        subst e1
        show bnd (.ok ((1 : Int), t)) _ = _
        rw [bnd_ok, if_neg (by decide)]
        exact body_codec.cut x t v hx e2 hv
  bytes := fun x hx => by
    rcases hx with rfl | hx
    · exact Bytes.cons (by decide) Bytes.nil
    · unfold clW
      rw [if_neg (by rw [hx.1]; decide)]
      exact Bytes.cons (by decide) (body_codec.bytes x hx)
structure De where
  loops : List Lp
  claims : List Cl
def markL : List Int := [87, 65, 82, 49]
def markR (L : List Int) : Rs Unit := if L.length < 4 then .error (0, 110) else if L.take 4 = markL then .ok ((), L.drop 4) else .error (L.length, 110)
theorem mark_codec : Codec markR (fun _ => markL) (fun _ => True) where
  back := fun x rest _ => by
    unfold markR
    have h : (markL ++ rest).length = 4 + rest.length := by rw [List.length_append]; rfl
    rw [if_neg (by omega), if_pos (by rfl)]
    rfl
  forth := fun L x rest _ e => by
    unfold markR at e
    split at e
    · cases e
    · split at e
      · rename_i h
        injection e with e; injection e with _ e2
        refine ⟨?_, trivial⟩
        rw [← e2, ← h, List.take_append_drop]
      · cases e
  cut := fun x u v _ e hv => by
    unfold markR
    have := congrArg List.length e
    rw [List.length_append] at this
    have h4 : markL.length = 4 := rfl
    have hv0 : 0 < v.length := by
      cases v with
      | nil => exact absurd rfl hv
      | cons a t => simp
    rw [if_pos (by omega)]
  bytes := fun x _ => by
    intro b hb
    unfold markL at hb
    simp only [List.mem_cons, List.not_mem_nil, or_false] at hb
    unfold IsB
    omega
def deR (L : List Int) : Rs De := bnd (markR L) fun _ L1 => bnd (countR 8 (fun _ => loopR) L1) fun l L2 => bnd (countR 512 (fun _ => clR) L2) fun c L3 => .ok (⟨l, c⟩, L3)
def deW (d : De) : List Int := markL ++ ((num d.loops.length ++ d.loops.flatMap loopW) ++ (num d.claims.length ++ d.claims.flatMap clW))
def deG (d : De) : Prop := (d.loops.length ≤ 8 ∧ ∀ (k : Nat) a, d.loops[k]? = some a → loopB a = true) ∧ (d.claims.length ≤ 512 ∧ ∀ (k : Nat) a, d.claims[k]? = some a → clG a)
theorem de_codec : Codec deR deW deG := by
  have c2 : Codec (countR 8 (fun _ => loopR)) (fun l => num l.length ++ l.flatMap loopW) (fun l => l.length ≤ 8 ∧ ∀ (k : Nat) a, l[k]? = some a → loopB a = true) := count_codec (p := fun _ => loopR) (good := fun _ l => loopB l = true) 8 (by decide) (fun _ => loop_codec)
  have c3 : Codec (countR 512 (fun _ => clR)) (fun l => num l.length ++ l.flatMap clW) (fun l => l.length ≤ 512 ∧ ∀ (k : Nat) a, l[k]? = some a → clG a) := count_codec (p := fun _ => clR) (good := fun _ l => clG l) 512 (by decide) (fun _ => cl_codec)
  have h := mark_codec.seq fun _ _ => c2.seq fun _ _ => c3
  refine h.map (fun x => ⟨x.2.1, x.2.2⟩) (fun x => ((), x.loops, x.claims)) (fun L => ?_) (fun t _ => rfl) (fun t ht => rfl) (fun x _ => rfl) (fun t ht => ⟨trivial, ht⟩) (fun x hx => by obtain ⟨u, l, c⟩ := x; exact hx.2)
  unfold deR
  simp only [bnd_assoc, bnd_ok]
/-- what is read of bytes, whole -/
def endR (L : List Int) : Rs De := bnd (deR L) fun d t => if t = [] then .ok (d, t) else .error (t.length, 110)
theorem end_back (d : De) (h : deG d) : endR (deW d) = .ok (d, []) := by
  have := de_codec.back d [] h
  rw [List.append_nil] at this
  unfold endR
  rw [this]; rfl
theorem end_more (d : De) (h : deG d) (m : List Int) (hm : m ≠ []) : endR (deW d ++ m) = .error (m.length, 110) := by
  unfold endR
  rw [de_codec.back d m h, bnd_ok, if_neg hm]
theorem end_cut (d : De) (h : deG d) (u v : List Int) (e : deW d = u ++ v) (hv : v ≠ []) : endR u = .error (0, 110) := by
  unfold endR
  rw [de_codec.cut d u v h e hv]; rfl
theorem end_forth (L : List Int) (d : De) (t : List Int) (hB : Bytes L) (e : endR L = .ok (d, t)) : L = deW d ∧ deG d ∧ t = [] := by
  unfold endR at e
  cases e1 : deR L with
  | error y => rw [e1] at e; cases e
  | ok y =>
    obtain ⟨a, s⟩ := y
    rw [e1, bnd_ok] at e
    by_cases h : s = []
    · rw [if_pos h] at e
      injection e with e; injection e with e2 e3
      subst e2 h e3
      obtain ⟨e4, hg⟩ := de_codec.forth L a [] hB e1
      exact ⟨by rw [List.append_nil] at e4; exact e4, hg, rfl⟩
    · rw [if_neg h] at e; cases e
end Go.Proofs.Ytbomihdnnidelaa.Dee
