import Derived.Test.YtgdeeiimkhjfiaaGreatDoorV0
import Derived.StillTail
set_option maxRecDepth 100000
set_option maxHeartbeats 6400000
namespace Go.Proofs.YtgdeeiimkhjfiaaGreatDoor
open Go.RowKit
structure Cs where
 r : Rg
 px : Nat
 u : U
namespace Cs
abbrev m (s : Cs) : Nat → Nat := s.u.m
abbrev rd (s : Cs) (a : Nat) : Cs := { s with u := s.u.rd a }
abbrev wr (s : Cs) (a v : Nat) : Cs := { s with u := s.u.wr a v }
abbrev ip (s : Cs) (p t : Nat) : Cs := { s with u := s.u.ip p t }
abbrev ipV (s : Cs) (p t : Nat) : Nat := s.u.ipV p t
abbrev op (s : Cs) (p v t : Nat) : Cs := { s with u := s.u.op p v t }
abbrev setR (s : Cs) (r : Rg) : Cs := { s with r := r }
abbrev setA (s : Cs) (v : Nat) : Cs := { s with r := { s.r with a := v } }
abbrev setF (s : Cs) (v : Nat) : Cs := { s with r := { s.r with f := v } }
abbrev setB (s : Cs) (v : Nat) : Cs := { s with r := { s.r with b := v } }
abbrev setSP (s : Cs) (v : Nat) : Cs := { s with r := { s.r with sp := v } }
abbrev setPC (s : Cs) (v : Nat) : Cs := { s with r := { s.r with pc := v } }
abbrev setWZ (s : Cs) (v : Nat) : Cs := { s with r := { s.r with wz := v } }
abbrev setI (s : Cs) (v : Nat) : Cs := { s with r := { s.r with i := v } }
abbrev setRR (s : Cs) (v : Nat) : Cs := { s with r := { s.r with r := v } }
abbrev setIM (s : Cs) (v : Nat) : Cs := { s with r := { s.r with im := v } }
abbrev setPX (s : Cs) (v : Nat) : Cs := { s with r := { s.r with px := v } }
abbrev setQ1 (s : Cs) (v : Bool) : Cs := { s with r := { s.r with q1 := v } }
abbrev setQ2 (s : Cs) (v : Bool) : Cs := { s with r := { s.r with q2 := v } }
abbrev setHT (s : Cs) (v : Bool) : Cs := { s with r := { s.r with ht := v } }
abbrev setDL (s : Cs) (v : Bool) : Cs := { s with r := { s.r with dl := v } }
abbrev setD (s : Cs) (v : Nat) : Cs := { s with r := { s.r with d := v } }
abbrev setE (s : Cs) (v : Nat) : Cs := { s with r := { s.r with e := v } }
abbrev setH (s : Cs) (v : Nat) : Cs := { s with r := { s.r with h := v } }
abbrev setL (s : Cs) (v : Nat) : Cs := { s with r := { s.r with l := v } }
abbrev ahead (s : Cs) (v : Nat) : Cs := { s with px := v }
def tick (s : Cs) : Cs := { s with r := s.r.tick }
def nextV (s : Cs) : Nat := s.m s.r.pc
def next (s : Cs) : Cs := (s.rd s.r.pc).setPC (up1 s.r.pc)
def fetch (s : Cs) : Cs := s.next.tick
def numV (s : Cs) (a : Nat) : Nat := s.m (up1 a) * 256 + s.m a
def num (s : Cs) (a : Nat) : Cs := (s.rd a).rd (up1 a)
def nextNumV (s : Cs) : Nat := s.numV s.r.pc
def nextNum (s : Cs) : Cs := (s.num s.r.pc).setPC ((s.r.pc + 2) % 65536)
def setNum (s : Cs) (a v : Nat) : Cs := (s.wr a (v % 256)).wr (up1 a) (Zx v)
def push (s : Cs) (v : Nat) : Cs := (((s.setSP (dn1 s.r.sp)).wr (dn1 s.r.sp) (Zx v)).setSP (dn1 (dn1 s.r.sp))).wr (dn1 (dn1 s.r.sp)) (v % 256)
def popV (s : Cs) : Nat := s.numV s.r.sp
def pop (s : Cs) : Cs := (s.num s.r.sp).setSP ((s.r.sp + 2) % 65536)
def one (s : Cs) (n : Int) : Nat := s.r.one n s.px
def setOne (s : Cs) (n : Int) (v : Nat) : Cs := { s with r := s.r.setOne n s.px v }
def own (s : Cs) (n : Int) : Nat := s.r.one n 0
def setOwn (s : Cs) (n : Int) (v : Nat) : Cs := { s with r := s.r.setOne n 0 v }
def stands (s : Cs) (n : Int) : Int := if n = 2 then ZT s.px else n
def pair (s : Cs) (n : Int) : Nat := s.r.pair (s.stands n)
def setPair (s : Cs) (n : Int) (v : Nat) : Cs := { s with r := s.r.setPair (s.stands n) v }
def pointV (s : Cs) : Nat := if s.px = 0 then s.pair 2 else wMove (s.pair 2) s.nextV
def point (s : Cs) : Cs := if s.px = 0 then s else s.next.setWZ (wMove (s.pair 2) s.nextV)
def either (s : Cs) (k j : Nat) : Nat := if s.px = 0 then k else j
def operV (s : Cs) (n : Int) : Nat := if n = 6 then s.m s.pointV else s.one n
def oper (s : Cs) (n : Int) : Cs := if n = 6 then s.point.rd s.pointV else s
def operC (s : Cs) (n : Int) : Nat := if n = 6 then s.either 7 15 else 4
def goTo (s : Cs) (a : Nat) : Cs := (s.setPC a).setWZ a
def start (s : Cs) (a : Nat) : Cs := (s.push s.r.pc).goTo a
def back (s : Cs) : Cs := s.pop.goTo s.popV
-- behind CB
def changedV (s : Cs) (x y v : Nat) : Nat := if x = 0 then tV y v (s.r.f % 2) else KU y v (Nat.beq x 3)
def changed (s : Cs) (x y v : Nat) : Cs := if x = 0 then s.setF (Yl y v (s.r.f % 2)) else s
def bitsAt (s : Cs) (x y z a : Nat) : Cs :=
 if x = 1 then (s.rd a).setF (Jj y (s.m a) s.r.f (Zx s.r.wz))
 else (((s.rd a).changed x y (s.m a)).wr a (s.changedV x y (s.m a))).setOwn z (s.changedV x y (s.m a))
def bitsReg (s : Cs) (x y z : Nat) : Cs :=
 if x = 1 then s.setF (Jj y (s.one z) s.r.f (s.one z))
 else (s.changed x y (s.one z)).setOne z (s.changedV x y (s.one z))
def bitsC (x k : Nat) : Nat := if x = 1 then k - 3 else k
-- the plain ones
def hop (s : Cs) (met : Bool) : Cs := cond met (s.next.goTo (wMove (up1 s.r.pc) s.nextV)) s.next
def addPair (s : Cs) (n : Int) : Cs :=
 ((s.setPair 2 (Yu (s.pair 2) (s.pair n) 0)).setF (VR (s.pair 2) (s.pair n) s.r.f)).setWZ (up1 (s.pair 2))
def countV (dec : Bool) (v : Nat) : Nat := cond dec (ZY v 1 0) (Yw v 1 0)
def countF (dec : Bool) (v f : Nat) : Nat := cond dec (YE (ZU v 1 0) f) (YE (Yp v 1 0) f)
def count (s : Cs) (n : Int) (dec : Bool) : Cs :=
 if n = 6 then ((s.point.rd s.pointV).wr s.pointV (countV dec (s.m s.pointV))).setF (countF dec (s.m s.pointV) s.r.f)
 else (s.setOne n (countV dec (s.one n))).setF (countF dec (s.one n) s.r.f)
def quickA (y : Nat) (a f : Nat) : Nat := if y < 4 then tV y a (f % 2) else if y = 4 then KS a f else KT ((y : Int) - 5) a
def quickF (y : Nat) (a f : Nat) : Nat := if y < 4 then Yj y a (f % 2) f else if y = 4 then Um a f else Vk ((y : Int) - 5) a f
def quick (s : Cs) (y : Nat) : Cs := (s.setA (quickA y s.r.a s.r.f)).setF (quickF y s.r.a s.r.f)
def sum (s : Cs) (k v : Nat) : Cs := (s.setA (Zeb k s.r.a v s.r.f)).setF (Zec k s.r.a v s.r.f)
def move (s : Cs) (y z : Nat) : Cs :=
 if y = 6 then (if z = 6 then s.setHT true else s.point.wr s.pointV (s.own z))
 else if z = 6 then (s.point.rd s.pointV).setOwn y (s.m s.pointV) else s.setOne y (s.one z)
def moveC (s : Cs) (y z : Nat) : Nat := if y = 6 then (if z = 6 then 4 else s.either 7 15) else if z = 6 then s.either 7 15 else 4
def moveNext (s : Cs) (y : Nat) : Cs := if y = 6 then s.point.next.wr s.pointV s.point.nextV else s.next.setOne y s.nextV
def moveNextC (s : Cs) (y : Nat) : Nat := if y = 6 then s.either 10 15 else 7
def moveA (s : Cs) (q a : Nat) : Cs := if q = 0 then (s.wr a s.r.a).setWZ (s.r.a * 256 + up1 a % 256) else ((s.rd a).setA (s.m a)).setWZ (up1 a)
def movePair (s : Cs) (q : Nat) (n : Int) : Cs :=
 if q = 0 then (s.nextNum.setWZ (up1 s.nextNumV)).setNum s.nextNumV (s.pair n)
 else ((s.nextNum.setWZ (up1 s.nextNumV)).num s.nextNumV).setPair n (s.numV s.nextNumV)
def stacked (p : Nat) : Int := if p = 3 then 4 else p
def backIf (s : Cs) (met : Bool) : Cs := cond met s.back s
def jumpTo (s : Cs) (met : Bool) : Cs := cond met ((s.nextNum.setWZ s.nextNumV).setPC s.nextNumV) (s.nextNum.setWZ s.nextNumV)
def callTo (s : Cs) (met : Bool) : Cs := cond met ((s.nextNum.setWZ s.nextNumV).start s.nextNumV) (s.nextNum.setWZ s.nextNumV)
def outNext (s : Cs) : Cs := (s.next.op (s.r.a * 256 + s.nextV) s.r.a 8).setWZ (s.r.a * 256 + (s.nextV + 1) % 256)
def inNext (s : Cs) : Cs := ((s.next.ip (s.r.a * 256 + s.nextV) 8).setA (s.next.ipV (s.r.a * 256 + s.nextV) 8)).setWZ (up1 (s.r.a * 256 + s.nextV))
def swapTop (s : Cs) : Cs := ((((s.num s.r.sp).setWZ s.popV).setNum s.r.sp (s.pair 2))).setPair 2 s.popV
def swapDE (s : Cs) : Cs := { s with r := { s.r with d := s.r.h, e := s.r.l, h := s.r.d, l := s.r.e } }
-- behind ED
def inOne (s : Cs) (n : Int) : Cs :=
 (((s.ip (s.pair 0) 9).setF (Zq (nS (s.ipV (s.pair 0) 9)) (nZ (s.ipV (s.pair 0) 9)) (Zf 32 (s.ipV (s.pair 0) 9)) false (Zf 8 (s.ipV (s.pair 0) 9)) (Jt (s.ipV (s.pair 0) 9)) false (Zf 1 s.r.f))).setWZ (up1 (s.pair 0))).setOne n (s.ipV (s.pair 0) 9)
def outOne (s : Cs) (n : Int) : Cs := (s.op (s.pair 0) (s.one n) 9).setWZ (up1 (s.pair 0))
def carryPair (s : Cs) (adc : Bool) (n : Int) : Cs :=
 ((s.setPair 2 (cond adc (Yu (s.pair 2) (s.pair n) (s.r.f % 2)) (Jg (s.pair 2) (s.pair n) (s.r.f % 2)))).setF (cond adc (JX (s.pair 2) (s.pair n) (s.r.f % 2)) (Vl (s.pair 2) (s.pair n) (s.r.f % 2)))).setWZ (up1 (s.pair 2))
def bring (s : Cs) (v : Nat) : Cs := (s.setA v).setF (Zq (nS v) (nZ v) (Zf 32 v) false (Zf 8 v) s.r.q2 false (Zf 1 s.r.f))
def digits (s : Cs) (left : Bool) : Cs :=
 ((((s.rd (s.pair 2)).wr (s.pair 2) (Wf left s.r.a (s.m (s.pair 2)))).setA (Uv left s.r.a (s.m (s.pair 2)))).setF (Wg left s.r.a (s.m (s.pair 2)) s.r.f)).setWZ (up1 (s.pair 2))
def byN (back : Bool) : Nat := cond back 255 1
def shift (s : Cs) (n : Int) (b : Nat) : Cs := s.setPair n (wMove (s.pair n) b)
def less (s : Cs) : Cs := s.setPair 0 (dn1 (s.pair 0))
def lessV (s : Cs) : Nat := dn1 (s.pair 0)
def manyLoad (s : Cs) (b : Nat) : Cs :=
 (((((s.rd (s.pair 2)).wr (s.pair 1) (s.m (s.pair 2))).shift 2 b).shift 1 b).less).setF (Wh s.r.a (s.m (s.pair 2)) s.r.f (decide (s.lessV ≠ 0)))
def manyLoadOn (s : Cs) : Bool := decide (s.lessV ≠ 0)
def manySeek (s : Cs) (b : Nat) : Cs :=
 (((((s.rd (s.pair 2)).shift 2 b)).setWZ (wMove s.r.wz b)).less).setF (KK s.r.a (s.m (s.pair 2)) s.r.f (decide (s.lessV ≠ 0)))
def manySeekOn (s : Cs) : Bool := JM s.r.a (s.m (s.pair 2)) (decide (s.lessV ≠ 0))
def decB (s : Cs) : Nat := (s.r.b + 255) % 256
def manyIn (s : Cs) (b : Nat) : Cs :=
 ((((((s.setWZ (wMove (s.pair 0) b)).ip (s.pair 0) 13).wr (s.pair 2) (s.ipV (s.pair 0) 13)).setB s.decB).shift 2 b)).setF (Ku (s.ipV (s.pair 0) 13) ((s.r.c + b) % 256) s.decB)
def manyOut (s : Cs) (b : Nat) : Cs :=
 let t := ((s.rd (s.pair 2)).setB s.decB)
 let u := ((t.op (t.pair 0) (s.m (s.pair 2)) 13).shift 2 b).setWZ (wMove (t.pair 0) b)
 u.setF (Ku (s.m (s.pair 2)) u.r.l s.decB)
end Cs
namespace Cs
def hopC (met : Bool) (k : Nat) : Nat := cond met k (k - 5)
def starts (s : Cs) (y : Nat) : Cs :=
 if y = 0 then s else if y = 1 then s.setR (s.r.swap false) else if y = 2 then (s.setB s.decB).hop (decide (s.decB ≠ 0)) else if y = 3 then s.hop true else s.hop (ZH s.r.f (y - 4))
def startsC (s : Cs) (y : Nat) : Nat :=
 if y = 0 then 4 else if y = 1 then 4 else if y = 2 then hopC (decide (s.decB ≠ 0)) 13 else if y = 3 then hopC true 12 else hopC (ZH s.r.f (y - 4)) 12
def moveFar (s : Cs) (y : Nat) : Cs :=
 if y / 2 = 0 then s.moveA (y % 2) (s.pair 0) else if y / 2 = 1 then s.moveA (y % 2) (s.pair 1) else if y / 2 = 2 then s.movePair (y % 2) 2 else s.nextNum.moveA (y % 2) s.nextNumV
def moveFarC (y : Nat) : Nat := if y / 2 = 0 then 7 else if y / 2 = 1 then 7 else if y / 2 = 2 then 16 else 13
def countPair (s : Cs) (y : Nat) : Cs := if y % 2 = 0 then s.setPair (y / 2 : Nat) (up1 (s.pair (y / 2 : Nat))) else s.setPair (y / 2 : Nat) (dn1 (s.pair (y / 2 : Nat)))
def countC (s : Cs) (y : Nat) : Nat := if y = 6 then s.either 11 19 else 4
def plain0 (s : Cs) (y z : Nat) : Cs :=
 if z = 0 then s.starts y else if z = 1 then (if y % 2 = 0 then s.nextNum.setPair (y / 2 : Nat) s.nextNumV else s.addPair (y / 2 : Nat)) else if z = 2 then s.moveFar y else if z = 3 then s.countPair y
 else if z = 4 then s.count y false else if z = 5 then s.count y true else if z = 6 then s.moveNext y else s.quick y
def plain0C (s : Cs) (y z : Nat) : Nat :=
 if z = 0 then s.startsC y else if z = 1 then (if y % 2 = 0 then 10 else 11) else if z = 2 then moveFarC y else if z = 3 then 6
 else if z = 4 then s.countC y else if z = 5 then s.countC y else if z = 6 then s.moveNextC y else 4
def lastOdd (s : Cs) (p : Nat) : Cs := if p = 0 then s.back else if p = 1 then s.setR (s.r.swap true) else if p = 2 then s.setPC (s.pair 2) else s.setSP (s.pair 2)
def lastOddC (p : Nat) : Nat := if p = 0 then 10 else if p = 1 then 4 else if p = 2 then 4 else 6
def mixed (s : Cs) (y : Nat) : Cs :=
 if y = 0 then s.jumpTo true else if y = 2 then s.outNext else if y = 3 then s.inNext else if y = 4 then s.swapTop else if y = 5 then s.swapDE else if y = 6 then (s.setQ1 false).setQ2 false
 else ((s.setQ1 true).setQ2 true).setDL true
def mixedC (y : Nat) : Nat := if y = 0 then 10 else if y = 2 then 11 else if y = 3 then 11 else if y = 4 then 19 else 4
def plain3 (s : Cs) (y z : Nat) : Cs :=
 if z = 0 then s.backIf (ZH s.r.f y) else if z = 1 then (if y % 2 = 0 then s.pop.setPair (stacked (y / 2)) s.popV else s.lastOdd (y / 2)) else if z = 2 then s.jumpTo (ZH s.r.f y) else if z = 3 then s.mixed y
 else if z = 4 then s.callTo (ZH s.r.f y) else if z = 5 then (if y % 2 = 0 then s.push (s.pair (stacked (y / 2))) else s.callTo true) else if z = 6 then s.next.sum y s.nextV else s.start (y * 8)
def plain3C (s : Cs) (y z : Nat) : Nat :=
 if z = 0 then cond (ZH s.r.f y) 11 5 else if z = 1 then (if y % 2 = 0 then 10 else lastOddC (y / 2)) else if z = 2 then 10 else if z = 3 then mixedC y
 else if z = 4 then cond (ZH s.r.f y) 17 10 else if z = 5 then (if y % 2 = 0 then 11 else 17) else if z = 6 then 7 else 11
def plain (s : Cs) (x y z : Nat) : Cs := if x = 0 then s.plain0 y z else if x = 1 then s.move y z else if x = 2 then (s.oper z).sum y (s.operV z) else s.plain3 y z
def plainC (s : Cs) (x y z : Nat) : Nat := if x = 0 then s.plain0C y z else if x = 1 then s.moveC y z else if x = 2 then s.operC z else s.plain3C y z
def modeV (y : Nat) : Nat := if y % 4 = 2 then 1 else if y % 4 = 3 then 2 else 0
def odd (s : Cs) (y : Nat) : Cs := if y = 0 then s.setI s.r.a else if y = 1 then s.setRR s.r.a else if y = 2 then s.bring s.r.i else if y = 3 then s.bring s.r.r else if y = 4 then s.digits false else if y = 5 then s.digits true else s
def oddC (y : Nat) : Nat := if y < 4 then 9 else if y < 6 then 18 else 8
def rareOne (s : Cs) (y z : Nat) : Cs :=
 if z = 0 then s.inOne y else if z = 1 then s.outOne y else if z = 2 then s.carryPair (decide (y % 2 ≠ 0)) (y / 2 : Nat) else if z = 3 then s.movePair (y % 2) (y / 2 : Nat)
 else if z = 4 then (s.setA (ZY 0 s.r.a 0)).setF (ZU 0 s.r.a 0) else if z = 5 then s.back.setQ1 s.r.q2 else if z = 6 then s.setIM (modeV y) else s.odd y
def rareOneC (y z : Nat) : Nat := if z = 0 then 12 else if z = 1 then 12 else if z = 2 then 15 else if z = 3 then 20 else if z = 4 then 8 else if z = 5 then 14 else if z = 6 then 8 else oddC y
def manyOne (s : Cs) (z b : Nat) : Cs := if z = 0 then s.manyLoad b else if z = 1 then s.manySeek b else if z = 2 then s.manyIn b else s.manyOut b
def manyOn (s : Cs) (z : Nat) : Bool := if z = 0 then s.manyLoadOn else if z = 1 then s.manySeekOn else decide (s.decB ≠ 0)
def again (s : Cs) (z : Nat) : Cs := if z < 2 then (s.setPC (dn1 (dn1 s.r.pc))).setWZ (up1 (dn1 (dn1 s.r.pc))) else s.setPC (dn1 (dn1 s.r.pc))
def goesOn (s : Cs) (y z : Nat) : Bool := decide (6 ≤ y) && s.manyOn z
def many (s : Cs) (y z : Nat) : Cs := cond (s.goesOn y z) ((s.manyOne z (byN (decide (y % 2 ≠ 0)))).again z) (s.manyOne z (byN (decide (y % 2 ≠ 0))))
def manyC (s : Cs) (y z : Nat) : Nat := cond (s.goesOn y z) 21 16
def rare (s : Cs) (x y z : Nat) : Cs := if x = 1 then s.rareOne y z else if x = 2 ∧ 4 ≤ y ∧ z < 4 then s.many y z else s
def rareC (s : Cs) (x y z : Nat) : Nat := if x = 1 then rareOneC y z else if x = 2 ∧ 4 ≤ y ∧ z < 4 then s.manyC y z else 8
def xOf (o : Nat) : Nat := o / 64
def yOf (o : Nat) : Nat := o / 8 % 8
def zOf (o : Nat) : Nat := o % 8
def onBits (s : Cs) : Cs :=
 if s.px = 0 then (if zOf s.nextV = 6 then s.fetch.bitsAt (xOf s.nextV) (yOf s.nextV) (zOf s.nextV) (s.fetch.pair 2) else s.fetch.bitsReg (xOf s.nextV) (yOf s.nextV) (zOf s.nextV))
 else s.point.next.bitsAt (xOf s.point.nextV) (yOf s.point.nextV) (zOf s.point.nextV) s.pointV
def onBitsC (s : Cs) : Nat :=
 if s.px = 0 then (if zOf s.nextV = 6 then bitsC (xOf s.nextV) 15 else 8) else bitsC (xOf s.point.nextV) 19
def perform (s : Cs) (o : Nat) : Cs :=
 if o = 221 then s.setPX o else if o = 253 then s.setPX o else if o = 237 then ((s.ahead 0).fetch).rare (xOf s.nextV) (yOf s.nextV) (zOf s.nextV) else if o = 203 then s.onBits else s.plain (xOf o) (yOf o) (zOf o)
def performC (s : Cs) (o : Nat) : Nat :=
 if o = 221 then 4 else if o = 253 then 4 else if o = 237 then ((s.ahead 0).fetch).rareC (xOf s.nextV) (yOf s.nextV) (zOf s.nextV) else if o = 203 then s.onBitsC else s.plainC (xOf o) (yOf o) (zOf o)
def begun (s : Cs) : Cs := ((s.setDL false).ahead s.r.px).setPX 0
def step (s : Cs) : Cs := cond s.r.ht s.tick (s.begun.fetch.perform s.begun.nextV)
def stepC (s : Cs) : Nat := cond s.r.ht 4 (s.begun.fetch.performC s.begun.nextV)
def lineCame (s : Cs) : Cs := if s.r.im = 2 then ((s.push s.r.pc).num (s.r.i * 256 + 255)).goTo ((s.push s.r.pc).numV (s.r.i * 256 + 255)) else s.start 56
def lineCameC (s : Cs) : Nat := if s.r.im = 2 then 19 else 13
def wake (s : Cs) : Cs := (s.setHT false).tick
def takes (s : Cs) (pause line : Bool) : Bool := and (Nat.beq s.r.px 0) (or pause (and line (and s.r.q1 (not s.r.dl))))
def inter (s : Cs) (pause line : Bool) : Cs := cond (s.takes pause line) (cond pause ((s.setQ1 false).wake.start 102) ((s.setQ1 false).setQ2 false).wake.lineCame) s
def interC (s : Cs) (pause line : Bool) : Nat := cond (s.takes pause line) (cond pause 11 s.lineCameC) 0
end Cs
section
variable {P : Program} {C : World → Prop} {l : List Oper} {n g : Nat} {R : Exit → Act → World → Prop}
theorem VZ {ops : Array Oper} : ∀ (f : Nat) (L : Array Bool) (a : Act) (w : World), wpAny P .any ops R f L a w → wpAny P .any ops R (f + 1) L a w
 | 0, _, _, _, h => ⟨fun _ => h.2, fun i hi => by rw [h.1] at hi; cases hi⟩
 | f + 1, _, _, _, h => ⟨h.1, fun i hi => wpOp_mono (fun a' w' h' => VZ f _ a' w' h') (h.2 i hi)⟩
theorem vR {ops : Array Oper} (k : Nat) {f : Nat} {L : Array Bool} {a : Act} {w : World} (h : wpAny P .any ops R f L a w) : wpAny P .any ops R (k + f) L a w := by
 induction k with
 | zero => rwa [Nat.zero_add]
 | succ k ih => rw [show k + 1 + f = (k + f) + 1 by omega]; exact VZ _ _ _ _ ih
def Jk (l : List Oper) (n : Nat) : Bool :=
 (List.range n).all fun k => match l[k]? with
  | none => false
  | some o => (o.after.all fun e => !Region.binds .any e || decide (e.on < k)) && (match o.guard with | none => true | some (j, _) => decide (j < n))
def Uy (l : List Oper) (n : Nat) : Bool :=
 decide (n < l.length) && Region.sinkB .any l.toArray n && Region.chainB .any l.toArray n && Jk l n &&
  Region.seqB .any l.toArray (l.length - n) n (List.replicate n true ++ List.replicate (l.length - n) false).toArray
theorem JN (h : Jk l n = true) (k : Nat) (hk : k < n) : ∃ o, l[k]? = some o ∧ (∀ e ∈ o.after, Region.binds .any e = true → e.on < k) ∧ ∀ j b, o.guard = some (j, b) → j < n := by
 have h1 := List.all_eq_true.1 h k (List.mem_range.2 hk)
 cases ho : l[k]? with
 | none => rw [ho] at h1; cases h1
 | some o =>
  rw [ho] at h1
  simp only [Bool.and_eq_true] at h1
  refine ⟨o, rfl, fun e he hb => ?_, fun j b hg => ?_⟩
  ·have h2 := (Array.all_eq_true_iff_forall_mem.1 h1.1) e he
   simpa [hb] using h2
  ·have h2 := h1.2
   rw [hg] at h2
   simpa using h2
def Uz (n : Nat) (L L' : Array Bool) : Prop := L'.size = n ∧ ∀ j, j < n → L'.getD j true = L.getD j true
theorem Uz.low {L L' : Array Bool} (h : Uz n L L') (hL : n ≤ L.size) {j : Nat} (hj : j < n) : L'.getD j false = L.getD j false := by
 have h1 := h.2 j hj
 have h2 : j < L'.size := by rw [h.1]; exact hj
 have h3 : j < L.size := by omega
 simpa [h2, h3] using h1
theorem Uz.set {L L' : Array Bool} (h : Uz n L L') (hL : n ≤ L.size) (i : Nat) : Uz n (L.setIfInBounds i true) (L'.setIfInBounds i true) := by
 refine ⟨by simp [h.1], fun j hj => ?_⟩
 have h2 : j < L'.size := by rw [h.1]; exact hj
 have h3 : j < L.size := by omega
 have h1 := h.2 j hj
 by_cases hij : i = j
 ·subst hij; simp [h2, h3]
 ·rw [getD_set_ne true hij, getD_set_ne true hij]; exact h1
theorem zP {i : Nat} (hi : i < n) : (l.take n).toArray[i]? = l.toArray[i]? := by simp [hi]
theorem Kv {L L' : Array Bool} (inv : HeadInv .any l.toArray n L) (hn : n < l.length) (hA : Uz n L L') (hd : Jk l n = true) {i : Nat} (hi : i < n) :
  i ∈ Region.ready .any l.toArray L ↔ i ∈ Region.ready .any (l.take n).toArray L' := by
 have hL : n ≤ L.size := by rw [inv.size]; simp; omega
 obtain ⟨o, ho, hlow, _⟩ := JN hd i hi
 rw [mem_ready, mem_ready, zP hi, hA.2 i hi]
 refine and_congr_right fun _ => exists_congr fun o' => and_congr_right fun ho' => forall_congr' fun e => forall_congr' fun he => forall_congr' fun hb => ?_
 have e1 : o' = o := by
  have : l.toArray[i]? = some o := by simpa using ho
  exact Option.some.inj (ho'.symm.trans this)
 subst e1
 rw [hA.low hL (by have := hlow e he hb; omega)]
theorem vT {L : Array Bool} (inv : HeadInv .any l.toArray n L) (hn : n < l.length) (hd : Jk l n = true) : ∀ k, k < n → L.getD k true = false → ∃ i, i < n ∧ i ∈ Region.ready .any l.toArray L := by
 intro k
 induction k using Nat.strongRecOn with
 | _ k ih =>
  intro hk hun
  obtain ⟨o, ho, hlow, _⟩ := JN hd k hk
  by_cases hall : ∀ e ∈ o.after, Region.binds .any e = true → L.getD e.on false = true
  ·exact ⟨k, hk, mem_ready.2 ⟨hun, o, by simpa using ho, hall⟩⟩
  ·simp only [Classical.not_forall] at hall
   obtain ⟨e, he, hb, hne⟩ := hall
   have hek := hlow e he hb
   have hsz : e.on < L.size := by rw [inv.size]; simp; omega
   exact ih e.on hek (by omega) (getD_in hsz (by simpa using hne))
theorem JO {Qn : Act → Prop} (hs : Region.sinkB .any l.toArray n = true) (hc : Region.chainB .any l.toArray n = true) (hd : Jk l n = true) (hn : n < l.length)
  (hQ : ∀ L a w, C w → HeadInv .any l.toArray n L → (∀ i, i < n → L.getD i true = true) → Qn a → wpAny P .any l.toArray R g L a w) :
  ∀ (f : Nat) (L L' : Array Bool) (a : Act) (w : World), HeadInv .any l.toArray n L → Uz n L L' → C w → wpAnyQ P .any (l.take n).toArray C Qn f L' a → wpAny P .any l.toArray R (f + g) L a w := by
 have hnone : ∀ {L L' : Array Bool}, HeadInv .any l.toArray n L → Uz n L L' → Region.ready .any (l.take n).toArray L' = [] → ∀ i, i < n → L.getD i true = true := by
  intro L L' inv hA hr i hi
  cases hu : L.getD i true with
  | true => rfl
  | false =>
   obtain ⟨j, hj, hjr⟩ := vT inv hn hd i hi hu
   rw [Kv inv hn hA hd hj, hr] at hjr
   cases hjr
 intro f
 induction f with
 | zero =>
  intro L L' a w inv hA hC h
  rw [Nat.zero_add]
  exact hQ L a w hC inv (hnone inv hA h.1) h.2
 | succ f ih =>
  intro L L' a w inv hA hC h
  by_cases hr : Region.ready .any (l.take n).toArray L' = []
  ·exact vR (f + 1) (hQ L a w hC inv (hnone inv hA hr) (h.1 hr))
  ·obtain ⟨i0, hi0⟩ := List.exists_mem_of_ne_nil _ hr
   have hi0n : i0 < n := by
    obtain ⟨-, o, ho, -⟩ := mem_ready.1 hi0
    have := (Array.getElem?_eq_some_iff.1 ho).1
    simp at this; omega
   have hL0 := (Kv inv hn hA hd hi0n).2 hi0
   rw [show f + 1 + g = (f + g) + 1 by omega]
   refine ⟨fun h0 => (by rw [h0] at hL0; cases hL0), fun i hi => ?_⟩
   have hin : i < n := by
    rcases Nat.lt_or_ge i n with h1 | h1
    ·exact h1
    ·exact absurd hi (tail_waits hs hc (by simpa using hn) inv _ i0 rfl hi0n (mem_ready.1 hL0).1 i h1)
   have hq := h.2 i ((Kv inv hn hA hd hin).1 hi)
   obtain ⟨o, ho, _, hg⟩ := JN hd i hin
   have ho1 : l.toArray[i]? = some o := by simpa using ho
   have ho2 : (l.take n).toArray[i]? = some o := by rw [zP hin]; exact ho1
   have hwant : ∀ a : Act, Region.wanted o (yielded (l.take n).toArray a.tmps) = Region.wanted o (yielded l.toArray a.tmps) := by
    intro a
    unfold Region.wanted
    split
    ·rfl
    ·rename_i j b hgj
     unfold yielded
     rw [zP (hg j b hgj)]
   have hL : n ≤ L.size := by rw [inv.size]; simp; omega
   have next : ∀ a' w', C w' → wpAnyQ P .any (l.take n).toArray C Qn f (L'.setIfInBounds i true) a' → wpAny P .any l.toArray R (f + g) (L.setIfInBounds i true) a' w' :=
    fun a' w' hC' h' => ih _ _ a' w' (inv.set hi hin) (hA.set hL i) hC' h'
   unfold qOp at hq
   unfold wpOp
   simp only [ho2] at hq
   simp only [ho1]
   rw [hwant a] at hq
   split
   ·rename_i hw; simp only [hw, if_true] at hq; exact .inl (Oper.wp_of_quiet hC next hq)
   ·rename_i hw; simp only [hw] at hq; exact next _ _ hC hq
theorem YI {id : Nat} {a : Act} {w : World} (n : Nat) (hm : P.follows .mixedOrders = true) (hB : Region.lexB .any (l.take n).toArray = true) (hT : Uy l n = true) (hC : C w.drew)
  (h : wpQuiet P (l.take n).toArray C (fun a' => ∀ w', C w' → wpList P l.toArray R (l.drop n) a' w') (l.take n) a) : (Code.region id l.toArray true).wp P R a w := by
 simp only [Uy, Bool.and_eq_true, decide_eq_true_eq] at hT
 obtain ⟨⟨⟨⟨hn, hs⟩, hc⟩, hd⟩, hseq⟩ := hT
 simp only [Region.lexB, Bool.and_eq_true] at hB
 have hlen : (l.take n).length = n := by simp; omega
 have inv0 : HeadInv .any l.toArray n (Array.replicate l.toArray.size false) :=
  ⟨by simp, fun j oj _ hl => (by rw [getD_replicate_false] at hl; cases hl), fun t _ ht => getD_in (by simpa using ht) (getD_replicate_false _ _)⟩
 have hA : Uz n (Array.replicate l.toArray.size false) (Array.replicate (l.take n).toArray.size false) := by
  refine ⟨by simpa using hlen, fun j hj => ?_⟩
  rw [getD_in (by simp; omega) (getD_replicate_false _ _), getD_in (by simp; omega) (getD_replicate_false _ _)]
 have hq := wpAnyQ_lex (C := C) (md := .any) hB.1 (l.take n) 0 (Array.replicate (l.take n).toArray.size false) a (by simp) (by simpa using hB.2) h
 have := JO (P := P) (R := R) (g := l.length - n) hs hc hd hn (fun L a' w' hC' inv hall hQ => by
  have eL : L = (List.replicate n true ++ List.replicate (l.length - n) false).toArray := by
   apply Array.ext
   ·rw [inv.size]; simp; omega
   ·intro j hj _
    have hj' : j < l.length := by rw [inv.size] at hj; simpa using hj
    rcases Nat.lt_or_ge j n with h1 | h1
    ·have := hall j h1
     simp only [Array.getD_eq_getD_getElem?, Array.getElem?_eq_getElem hj, Option.getD_some] at this
     simp [this, h1]
    ·have := inv.tail j h1 (by simpa using hj')
     simp only [Array.getD_eq_getD_getElem?, Array.getElem?_eq_getElem hj, Option.getD_some] at this
     simp [this, List.getElem_append, Nat.not_lt.2 h1]
  have hdl : (l.drop n).length = l.length - n := by simp
  have := wpAny_of_seq (md := .any) (Q' := R) (l.drop n) n L a' w' (fun j => by simp [List.getElem?_drop]) (by rw [hdl, eL]; exact hseq) (hQ w' hC')
  rwa [hdl] at this) (l.take n).length _ _ a _ inv0 hA hC hq
 refine wp_region_any hm ?_
 rw [hlen, show n + (l.length - n) = l.toArray.size by simp; omega] at this
 exact this
end
theorem Zk {P : Program} {W0 w : World} {lst : List (Nat × TypeId × List Value)} {l : List Oper} {R : Exit → Act → World → Prop} {id : Nat} {a : Act} (n : Nat) (HM : Hid (Own W0 w lst)) (hm : P.follows .mixedOrders = true)
  (hB : Region.lexB .any (l.take n).toArray = true) (hT : Uy l n = true)
  (h : wpQuiet P (l.take n).toArray (fun w' => Own W0 w' lst) (fun a' => ∀ w', Hid (Own W0 w' lst) → wpList P l.toArray R (l.drop n) a' w') (l.take n) a) : (Code.region id l.toArray true).wp P R a w :=
 YI (C := fun w' => Own W0 w' lst) n hm hB hT HM.out.drew h
theorem K6 (x : Int) : bits .and .i64 x 7 = x % 8 := by
 have e : (BitVec.ofInt 64 x &&& BitVec.ofInt 64 7).toNat = (x % 8).toNat := by
  rw [BitVec.toNat_and, BitVec.toNat_ofInt, BitVec.toNat_ofInt]
  rw [show ((7 : Int) % ((2 ^ 64 : Nat) : Int)).toNat = 2 ^ 3 - 1 by decide, Nat.and_two_pow_sub_one_eq_mod]
  omega
 show IntKind.i64.wrap ((BitVec.ofInt 64 x &&& BitVec.ofInt 64 7).toNat : Int) = _
 rw [e]
 rw [IntWalk.i64_in _ (by omega)]
 omega
end Go.Proofs.YtgdeeiimkhjfiaaGreatDoor
