/-
  Sounds as plain data: a structure for each of tone, noise and sound; what a step, a write, a sample and some steps make of them. Nothing here speaks of the program's memory, but of how a sound lies in cells.
-/
import Derived.Test.YtnkfelflpkbobaaDoorPsgKinds
namespace Go.Proofs.YtnkfelflpkbobaaDoor
open Go.RowKit

structure Ton where
  p : Int
  c : Int
  o : Bool
structure Noi where
  m : Int
  c : Int
  h : Bool
  x : Int
structure Snd where
  t0 : Ton
  t1 : Ton
  t2 : Ton
  n : Noi
  q0 : Int
  q1 : Int
  q2 : Int
  q3 : Int
  l : Int

abbrev Ton.cells (t : Ton) : List Value := [.int .i64 t.p, .int .i64 t.c, .bool t.o]
abbrev Noi.cells (n : Noi) : List Value := [.int .u8 n.m, .int .i64 n.c, .bool n.h, .int .u16 n.x]
def Snd.cells (S : Snd) : List Value := [.int .i64 S.t0.p, .int .i64 S.t0.c, .bool S.t0.o, .int .i64 S.t1.p, .int .i64 S.t1.c, .bool S.t1.o, .int .i64 S.t2.p, .int .i64 S.t2.c, .bool S.t2.o,
  .int .u8 S.n.m, .int .i64 S.n.c, .bool S.n.h, .int .u16 S.n.x, .int .u8 S.q0, .int .u8 S.q1, .int .u8 S.q2, .int .u8 S.q3, .int .u8 S.l]
abbrev Snd.v (S : Snd) : Value := .agg S.cells.toArray
theorem Snd.cells_length (S : Snd) : S.cells.length = 18 := rfl
theorem Snd.one (S : Snd) : S.cells.all (·.oneCell') = true := rfl

def Ton.right (t : Ton) : Bool := tone.rightB t.p t.c
def Noi.right (n : Noi) : Bool := rightB n.m n.c n.x
def Snd.right (S : Snd) : Bool := decide (S.t0.right = true ∧ S.t1.right = true ∧ S.t2.right = true ∧ S.q0 < 16 ∧ S.q1 < 16 ∧ S.q2 < 16 ∧ S.q3 < 16 ∧ S.n.right = true ∧ S.l < 8)
theorem Snd.right_iff (S : Snd) : S.right = true ↔ S.t0.right = true ∧ S.t1.right = true ∧ S.t2.right = true ∧ S.q0 < 16 ∧ S.q1 < 16 ∧ S.q2 < 16 ∧ S.q3 < 16 ∧ S.n.right = true ∧ S.l < 8 := by unfold Snd.right; simp

/-- the cells' kinds hold these numbers -/
structure Snd.Fits (S : Snd) : Prop where
  m0 : 0 ≤ S.n.m
  m1 : S.n.m < 256
  x0 : 0 ≤ S.n.x
  x1 : S.n.x < 65536
  a0 : 0 ≤ S.q0
  a1 : S.q0 < 256
  b0 : 0 ≤ S.q1
  b1 : S.q1 < 256
  d0 : 0 ≤ S.q2
  d1 : S.q2 < 256
  e0 : 0 ≤ S.q3
  e1 : S.q3 < 256
  l0 : 0 ≤ S.l
  l1 : S.l < 256

structure Ton.Good (t : Ton) : Prop where
  p0 : 0 ≤ t.p
  p1 : t.p ≤ 1023
  c0 : 0 ≤ t.c
  c1 : t.c ≤ 1023
structure Noi.Good (n : Noi) : Prop where
  m0 : 0 ≤ n.m
  m1 : n.m < 8
  c0 : 0 ≤ n.c
  c1 : n.c ≤ 64
  x0 : 0 < n.x
  x1 : n.x < 65536
structure Snd.Good (S : Snd) : Prop where
  t0 : S.t0.Good
  t1 : S.t1.Good
  t2 : S.t2.Good
  n : S.n.Good
  a0 : 0 ≤ S.q0
  a1 : S.q0 < 16
  b0 : 0 ≤ S.q1
  b1 : S.q1 < 16
  d0 : 0 ≤ S.q2
  d1 : S.q2 < 16
  e0 : 0 ≤ S.q3
  e1 : S.q3 < 16
  l0 : 0 ≤ S.l
  l1 : S.l < 8

theorem Ton.good_of (t : Ton) (h : t.right = true) : t.Good := by
  obtain ⟨a, b, c, d⟩ := (tone.rightB_iff t.p t.c).1 h
  exact ⟨a, b, c, d⟩
theorem Ton.Good.right {t : Ton} (h : t.Good) : t.right = true := (tone.rightB_iff t.p t.c).2 ⟨h.p0, h.p1, h.c0, h.c1⟩
theorem Noi.Good.right {n : Noi} (h : n.Good) : n.right = true := (rightB_iff n.m n.c n.x).2 ⟨h.m1, h.c0, h.c1, h.x0⟩
theorem Snd.Fits.good {S : Snd} (f : S.Fits) (h : S.right = true) : S.Good := by
  obtain ⟨h0, h1, h2, a, b, d, e, hn, l⟩ := S.right_iff.1 h
  obtain ⟨n0, n1, n2, n3⟩ := (rightB_iff S.n.m S.n.c S.n.x).1 hn
  exact ⟨Ton.good_of _ h0, Ton.good_of _ h1, Ton.good_of _ h2, ⟨f.m0, n0, n1, n2, n3, f.x1⟩, f.a0, a, f.b0, b, f.d0, d, f.e0, e, f.l0, l⟩
theorem Snd.Good.right {S : Snd} (h : S.Good) : S.right = true := S.right_iff.2 ⟨h.t0.right, h.t1.right, h.t2.right, h.a1, h.b1, h.d1, h.e1, h.n.right, h.l1⟩
theorem Snd.Good.fits {S : Snd} (h : S.Good) : S.Fits :=
  ⟨h.n.m0, by have := h.n.m1; omega, by have := h.n.x0; omega, h.n.x1, h.a0, by have := h.a1; omega, h.b0, by have := h.b1; omega, h.d0, by have := h.d1; omega, h.e0, by have := h.e1; omega, h.l0, by have := h.l1; omega⟩

/-- one step -/
def Ton.next (t : Ton) : Ton := ⟨t.p, tone.nextC t.p t.c, tone.nextO t.p t.c t.o⟩
def Ton.turns (t : Ton) : Bool := tone.turns t.p t.c
def Noi.next (n : Noi) (t : Bool) : Noi := ⟨n.m, nextCt n.m n.c, nextH n.m n.c n.h t, nextX n.m n.c n.h n.x t⟩
def Snd.step (S : Snd) : Snd := { S with t0 := S.t0.next, t1 := S.t1.next, t2 := S.t2.next, n := S.n.next S.t2.turns }
/-- the first j tones have gone on -/
def Snd.stepTo (S : Snd) : Nat → Snd
  | 0 => S
  | 1 => { S with t0 := S.t0.next }
  | 2 => { S with t0 := S.t0.next, t1 := S.t1.next }
  | _ => { S with t0 := S.t0.next, t1 := S.t1.next, t2 := S.t2.next }
def Snd.turnedTo (S : Snd) : Nat → Bool
  | 0 => false
  | 1 => S.t0.turns
  | 2 => S.t1.turns
  | _ => S.t2.turns

theorem Ton.Good.next {t : Ton} (h : t.Good) : t.next.Good := by
  obtain ⟨a, b, c, d⟩ := h
  refine ⟨a, b, ?_, ?_⟩ <;> (unfold Ton.next tone.nextC; simp only; repeat' split) <;> omega
theorem Noi.Good.next {n : Noi} (h : n.Good) (t : Bool) : (n.next t).Good := by
  obtain ⟨m0, m1, c0, c1, x0, x1⟩ := h
  have hm := moveOf_bd n.x (whiteB n.m) (by omega) x1
  have hz := moveOf_zero n.x (whiteB n.m) (by omega) x1
  refine ⟨m0, m1, ?_, ?_, ?_, ?_⟩
  · unfold Noi.next nextCt; simp only; (repeat' split) <;> omega
  · unfold Noi.next nextCt; simp only; (repeat' split) <;> omega
  · unfold Noi.next nextX; simp only; split <;> omega
  · unfold Noi.next nextX; simp only; split <;> omega
theorem Snd.Good.step {S : Snd} (h : S.Good) : S.step.Good :=
  ⟨h.t0.next, h.t1.next, h.t2.next, h.n.next _, h.a0, h.a1, h.b0, h.b1, h.d0, h.d1, h.e0, h.e1, h.l0, h.l1⟩

/-- how loud -/
def sayB (o : Bool) (q : Int) : Int := if o = true then volOf q else 0
def Noi.out (n : Noi) : Bool := decide (n.x % 2 = 1)
def Snd.sample (S : Snd) : Int := sayB S.t0.o S.q0 + sayB S.t1.o S.q1 + sayB S.t2.o S.q2 + sayB S.n.out S.q3
theorem sayB_bd (o : Bool) (q : Int) : 0 ≤ sayB o q ∧ sayB o q ≤ 8191 := by
  have := volOf_bd q
  unfold sayB; split <;> omega
theorem Snd.sample_bd (S : Snd) : 0 ≤ S.sample ∧ S.sample ≤ 32764 := by
  have a := sayB_bd S.t0.o S.q0
  have b := sayB_bd S.t1.o S.q1
  have c := sayB_bd S.t2.o S.q2
  have d := sayB_bd S.n.out S.q3
  unfold Snd.sample; omega

/-- a byte comes -/
def wL (v l : Int) : Int := if 128 ≤ v then v / 16 % 8 else l
def wQ (i L v q : Int) : Int := if L = 2 * i + 1 then v % 16 else q
def pieceOf (v p : Int) : Int := if 128 ≤ v then p / 16 * 16 + v % 16 else p % 16 + v % 64 * 16
def wP (i L v p : Int) : Int := if L = 2 * i then pieceOf v p else p
def wN (L v : Int) (n : Noi) : Noi := if L = 6 then ⟨v % 8, n.c, n.h, 32768⟩ else n
def Snd.write (S : Snd) (v : Int) : Snd :=
  { t0 := ⟨wP 0 (wL v S.l) v S.t0.p, S.t0.c, S.t0.o⟩, t1 := ⟨wP 1 (wL v S.l) v S.t1.p, S.t1.c, S.t1.o⟩, t2 := ⟨wP 2 (wL v S.l) v S.t2.p, S.t2.c, S.t2.o⟩, n := wN (wL v S.l) v S.n,
    q0 := wQ 0 (wL v S.l) v S.q0, q1 := wQ 1 (wL v S.l) v S.q1, q2 := wQ 2 (wL v S.l) v S.q2, q3 := wQ 3 (wL v S.l) v S.q3, l := wL v S.l }
theorem wL_bd (v l : Int) (_v0 : 0 ≤ v) (l0 : 0 ≤ l) (l1 : l < 8) : 0 ≤ wL v l ∧ wL v l < 8 := by unfold wL; split <;> omega
theorem wQ_bd (i L v q : Int) (_v0 : 0 ≤ v) (q0 : 0 ≤ q) (q1 : q < 16) : 0 ≤ wQ i L v q ∧ wQ i L v q < 16 := by unfold wQ; split <;> omega
theorem wP_bd (i L v p : Int) (_v0 : 0 ≤ v) (p0 : 0 ≤ p) (p1 : p ≤ 1023) : 0 ≤ wP i L v p ∧ wP i L v p ≤ 1023 := by unfold wP pieceOf; (repeat' split) <;> omega
theorem Noi.Good.write {n : Noi} (h : n.Good) (L v : Int) (_v0 : 0 ≤ v) : (wN L v n).Good := by
  unfold wN; split
  · exact ⟨by show 0 ≤ v % 8; omega, by show v % 8 < 8; omega, h.c0, h.c1, by show (0 : Int) < 32768; omega, by show (32768 : Int) < 65536; omega⟩
  · exact h
theorem Snd.Good.write {S : Snd} (h : S.Good) (v : Int) (v0 : 0 ≤ v) : (S.write v).Good := by
  have a := wP_bd 0 (wL v S.l) v S.t0.p v0 h.t0.p0 h.t0.p1
  have b := wP_bd 1 (wL v S.l) v S.t1.p v0 h.t1.p0 h.t1.p1
  have c := wP_bd 2 (wL v S.l) v S.t2.p v0 h.t2.p0 h.t2.p1
  have d := wQ_bd 0 (wL v S.l) v S.q0 v0 h.a0 h.a1
  have e := wQ_bd 1 (wL v S.l) v S.q1 v0 h.b0 h.b1
  have f := wQ_bd 2 (wL v S.l) v S.q2 v0 h.d0 h.d1
  have g := wQ_bd 3 (wL v S.l) v S.q3 v0 h.e0 h.e1
  have i := wL_bd v S.l v0 h.l0 h.l1
  exact ⟨⟨a.1, a.2, h.t0.c0, h.t0.c1⟩, ⟨b.1, b.2, h.t1.c0, h.t1.c1⟩, ⟨c.1, c.2, h.t2.c0, h.t2.c1⟩, h.n.write _ v v0, d.1, d.2, e.1, e.2, f.1, f.2, g.1, g.2, i.1, i.2⟩

end Go.Proofs.YtnkfelflpkbobaaDoor
