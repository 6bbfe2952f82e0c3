import Derived.Test.YtgdeeiimkhjfiaaGreatDoorV44
import Derived.ProofKit
import Derived.OpenShut
import Derived.ChangeOld
import Derived.Below
import Derived.ChangeArms
set_option maxRecDepth 100000
set_option maxHeartbeats 6400000
namespace Go.Proofs.YtgdeeiimkhjfiaaGreatDoor
open Go.RowKit
section
variable {W0 w : World} {x b tq n c : Nat} {s : Cs} {ix : Bool} {pg : Int} {l : Zj}
theorem Zf7 {P : Program} {W0 : World} {ops : Array Oper} {o : Oper} {a : Act} {v : Value} {ty t : TypeId} {x : Operand} {g off : Nat} {cs : List Value} (ho : o.op = .load ty x) (hx : a.eval x = .pointer (some ⟨g, off, none⟩)) (hty : One P ty)
  (hs : Sel l g t cs) (hd : cs[off]? = some v) (hw : Region.wanted o (yielded ops a.tmps) = true) : YieldsIf P ops (fun w' => Own W0 w' l) o v a := by
 refine .inl ⟨hw, fun w hC => ?_⟩
 have hc : w.cell? ⟨g, off, none⟩ = some v := by rw [(hC.at_ hs).at_]; exact hd
 unfold execOp
 simp only [ho, hx, Instr.loadAt, Instr.sureAddr, Sem.run_bind, Sem.run_pure, Result.andThen_ok, ZG w g off ty v hc hty]
theorem Own.left {l X : Zj} (h : Own W0 w (l ++ X)) : Own W0 w l := ⟨h.below, fun e he => h.whole e (List.mem_append_left _ he), (List.pairwise_append.1 h.apart).1⟩
theorem Vg {l X Y : Zj} (h : Own W0 w (l ++ (X ++ Y))) : Own W0 w ((l ++ Y) ++ X) := h.perm (by rw [List.append_assoc]; exact List.perm_append_comm.append_left l)
theorem ZdW {W0 : World} {a : Option Addr} {cc : Nat} {bs : List Nat} (hb : ∀ i, bs.getD i 0 < 256) (hR : Rd W0 (.slice a bs.length cc) (by8 bs)) : ZcJ W0 l a bs := by
 refine ⟨fun y hy => ?_, fun hp => ?_⟩
 ·obtain ⟨j, hj, rfl⟩ := List.mem_iff_getElem.1 hy
  have := hb j
  rwa [List.getD_eq_getElem?_getD, List.getElem?_eq_getElem hj, Option.getD_some] at this
 ·rcases hR with ⟨h, h'⟩ | ⟨ad, cap, h, h'⟩ | ⟨g, o, cap, h, hg, hc⟩
  ·exfalso; have e := congrArg List.length h'; rw [by8_length] at e; simp only [List.length_nil] at e; omega
  ·exfalso; have e := congrArg List.length h'; rw [by8_length] at e; simp only [List.length_nil] at e; omega
  ·obtain rfl : a = some ⟨g, o, none⟩ := by injection h
   refine ⟨g, o, rfl, fun w hO i y hy => ?_⟩
   refine (hO.below.cell (p := ⟨g, o + i, none⟩) hg).trans (hc i _ ?_)
   rw [by8, List.getElem?_map, hy]; rfl
theorem Zf8 {r : Rg} (h : r.right = true) : Q3 r.px := by
 unfold Rg.right at h
 simp only [Bool.and_eq_true, Bool.or_eq_true, decide_eq_true_eq] at h
 have := h
 omega
section
variable {W0 w : World} {b n : Nat} {l : Zj} {r q : Rg} {u u' : U} {k : Nat}
theorem Zf9 (hT : Hid (Tabs W0)) (hr : Hid r.Fits) (hq : Hid ((Cs.step ⟨r, 0, u⟩).r = q)) (hk : Hid (Cs.stepC ⟨r, 0, u⟩ = k)) (hu : Hid ((Cs.step ⟨r, 0, u⟩).u = u')) (h : Hid (Bx W0 w b u l (n + 7))) :
  CX 9 #[r.v, .iface 29 (.pointer (some ⟨b, 0, none⟩))] w (.tuple #[q.v, .int .i64 (k : Int)]) fun w' => Hid q.Fits ∧ Hid (Bx W0 w' b u' l n) := by
 rw [← hq.out, ← hk.out, ← hu.out]
 exact (yI (n := n + 1) hT r u hr.out h).mono fun _ _ ⟨he, hf, hb⟩ => ⟨he, Zb hf, Zb ⟨hb.out.good.less (by omega), hb.out.own⟩⟩
theorem Zga (h3 : Hid (Q3 r.px)) (hr : Hid r.Fits) (hq : Hid ((Cs.step ⟨r, 0, u⟩).r = q)) (hk : Hid (Cs.stepC ⟨r, 0, u⟩ = k)) (hu : Hid ((Cs.step ⟨r, 0, u⟩).u = u')) (h : Hid (Fx W0 w b u l (n + 7))) :
  CX 10 #[r.v, .pointer (some ⟨b, 0, none⟩)] w (.tuple #[q.v, .int .i64 (k : Int)]) fun w' => Hid (Fx W0 w' b u' l n) := by
 rw [← hq.out, ← hk.out, ← hu.out]
 exact Zf5 (s := ⟨r, 0, u⟩) h3.out hr.out h
end
def Ks (s t : Cs) : Prop := t.r.im = s.r.im ∧ t.r.px = s.r.px
theorem Ks.same : Ks s s := ⟨rfl, rfl⟩
theorem Ks.then_ {s t u : Cs} (h : Ks s t) (k : Ks t u) : Ks s u := ⟨k.1.trans h.1, k.2.trans h.2⟩
theorem Rg.sp_im (r : Rg) (n : Int) (v : Nat) : (r.setPair n v).im = r.im ∧ (r.setPair n v).px = r.px := by unfold Rg.setPair; (repeat' split) <;> exact ⟨rfl, rfl⟩
theorem Rg.so_im (r : Rg) (n : Int) (p v : Nat) : (r.setOne n p v).im = r.im ∧ (r.setOne n p v).px = r.px := by
 unfold Rg.setOne; (repeat' split) <;> first | exact ⟨rfl, rfl⟩ | exact Rg.sp_im _ _ _
theorem Rg.sw_im (r : Rg) (b : Bool) : (r.swap b).im = r.im ∧ (r.swap b).px = r.px := by unfold Rg.swap; cases b <;> exact ⟨rfl, rfl⟩
namespace Cs
theorem kp_point (s : Cs) : Ks s s.point := by unfold Cs.point; split <;> exact ⟨rfl, rfl⟩
theorem Zmn (s : Cs) (b : Bool) : Ks s (s.hop b) := by unfold Cs.hop; cases b <;> exact ⟨rfl, rfl⟩
theorem ZdX (s : Cs) (y : Nat) : Ks s (s.starts y) := by
 unfold Cs.starts; (repeat' split) <;> first | exact ⟨rfl, rfl⟩ | exact Rg.sw_im _ _ | exact Zmn _ _
theorem vA (s : Cs) (q a : Nat) : Ks s (s.moveA q a) := by unfold Cs.moveA; split <;> exact ⟨rfl, rfl⟩
theorem VP (s : Cs) (q : Nat) (n : Int) : Ks s (s.movePair q n) := by
 unfold Cs.movePair; split <;> first | exact ⟨rfl, rfl⟩ | exact Rg.sp_im _ _ _
theorem ZaY (s : Cs) : Ks s s.nextNum := ⟨rfl, rfl⟩
theorem ZaZ (s : Cs) (y : Nat) : Ks s (s.moveFar y) := by
 unfold Cs.moveFar; (repeat' split) <;> first | exact vA _ _ _ | exact VP _ _ _ | exact (ZaY s).then_ (vA _ _ _)
theorem zz (s : Cs) (y : Nat) : Ks s (s.countPair y) := by unfold Cs.countPair; split <;> exact Rg.sp_im _ _ _
theorem Zgb (s : Cs) (n : Int) (d : Bool) : Ks s (s.count n d) := by
 unfold Cs.count; split
 ·exact s.kp_point
 ·exact Rg.so_im _ _ _ _
theorem jW (s : Cs) (y : Nat) : Ks s (s.moveNext y) := by
 unfold Cs.moveNext; split
 ·exact s.kp_point
 ·exact Rg.so_im _ _ _ _
theorem ZdY (s : Cs) (y z : Nat) : Ks s (s.plain0 y z) := by
 unfold Cs.plain0; (repeat' split) <;> first | exact ZdX _ _ | exact Rg.sp_im _ _ _ | exact ZaZ _ _ | exact zz _ _ | exact Zgb _ _ _ | exact jW _ _ | exact ⟨rfl, rfl⟩
theorem Zj0 (s : Cs) (y z : Nat) : Ks s (s.move y z) := by
 unfold Cs.move; (repeat' split) <;> first | exact ⟨rfl, rfl⟩ | exact s.kp_point | exact s.kp_point.then_ (Rg.so_im _ _ _ _) | exact Rg.so_im _ _ _ _
theorem Zj1 (s : Cs) (n : Int) : Ks s (s.oper n) := by unfold Cs.oper; split; exact s.kp_point; exact .same
theorem ZdZ (s : Cs) : Ks s s.back := by unfold Cs.back Cs.goTo Cs.pop; exact ⟨rfl, rfl⟩
theorem zA (s : Cs) (b : Bool) : Ks s (s.jumpTo b) := by unfold Cs.jumpTo; cases b <;> exact ⟨rfl, rfl⟩
theorem Vh (s : Cs) (a : Nat) : Ks s (s.start a) := by unfold Cs.start Cs.goTo Cs.push; exact ⟨rfl, rfl⟩
theorem zB (s : Cs) (b : Bool) : Ks s (s.callTo b) := by
 unfold Cs.callTo; cases b
 ·exact ⟨rfl, rfl⟩
 ·exact (show Ks s (s.nextNum.setWZ s.nextNumV) from ⟨rfl, rfl⟩).then_ (Vh _ _)
theorem Zd0 (s : Cs) (b : Bool) : Ks s (s.backIf b) := by unfold Cs.backIf; cases b; exact .same; exact ZdZ s
theorem Za0 (s : Cs) (p : Nat) : Ks s (s.lastOdd p) := by
 unfold Cs.lastOdd; (repeat' split) <;> first | exact ZdZ s | exact Rg.sw_im _ _ | exact ⟨rfl, rfl⟩
theorem Zgc (s : Cs) (y : Nat) : Ks s (s.mixed y) := by
 unfold Cs.mixed; (repeat' split) <;> first | exact zA _ _ | exact Rg.sp_im _ _ _ | exact ⟨rfl, rfl⟩
theorem Zd1 (s : Cs) (v : Nat) : Ks s (s.push v) := by unfold Cs.push; exact ⟨rfl, rfl⟩
theorem Zmo (s : Cs) : Ks s s.pop := by unfold Cs.pop; exact ⟨rfl, rfl⟩
theorem Zj2 (s : Cs) (a : Nat) : Ks s (s.goTo a) := ⟨rfl, rfl⟩
theorem Zmp (s : Cs) (a : Nat) : Ks s (s.num a) := ⟨rfl, rfl⟩
theorem Za1 (s : Cs) (n : Int) (v : Nat) : Ks s (s.setPair n v) := Rg.sp_im _ _ _
theorem Zd2 (s : Cs) (y z : Nat) : Ks s (s.plain3 y z) := by
 unfold Cs.plain3; (repeat' split)
 ·exact Zd0 _ _
 ·exact (Zmo s).then_ (Za1 s.pop _ _)
 ·exact Za0 _ _
 ·exact zA _ _
 ·exact Zgc _ _
 ·exact zB _ _
 ·exact Zd1 _ _
 ·exact zB _ _
 ·exact ⟨rfl, rfl⟩
 ·exact Vh _ _
theorem Zmq (s : Cs) (y v : Nat) : Ks s (s.sum y v) := by
 unfold Cs.sum; (repeat' split) <;> exact ⟨rfl, rfl⟩
theorem Zgd (s : Cs) (x y z : Nat) : Ks s (s.plain x y z) := by
 unfold Cs.plain; (repeat' split)
 ·exact ZdY _ _ _
 ·exact Zj0 _ _ _
 ·exact (Zj1 s z).then_ (Zmq _ _ _)
 ·exact Zd2 _ _ _
theorem zC (s : Cs) (x y z a : Nat) : Ks s (s.bitsAt x y z a) := by
 unfold Cs.bitsAt; split
 ·exact ⟨rfl, rfl⟩
 ·refine Ks.then_ (t := (((s.rd a).changed x y (s.m a)).wr a (s.changedV x y (s.m a)))) ?_ (Rg.so_im _ _ _ _)
  unfold Cs.changed; split <;> exact ⟨rfl, rfl⟩
theorem Za2 (s : Cs) (x y z : Nat) : Ks s (s.bitsReg x y z) := by
 unfold Cs.bitsReg; split
 ·exact ⟨rfl, rfl⟩
 ·refine Ks.then_ (t := s.changed x y (s.one z)) ?_ (Rg.so_im _ _ _ _)
  unfold Cs.changed; split <;> exact ⟨rfl, rfl⟩
theorem Zd3 (s : Cs) : Ks s s.onBits := by
 unfold Cs.onBits; (repeat' split)
 ·exact (show Ks s s.fetch from ⟨rfl, rfl⟩).then_ (zC _ _ _ _ _)
 ·exact (show Ks s s.fetch from ⟨rfl, rfl⟩).then_ (Za2 _ _ _ _)
 ·exact (s.kp_point.then_ (show Ks s.point s.point.next from ⟨rfl, rfl⟩)).then_ (zC _ _ _ _ _)
def Kr (s t : Cs) : Prop := (t.r.im = s.r.im ∨ t.r.im ≤ 2) ∧ t.r.px = s.r.px
theorem Ks.r {s t : Cs} (h : Ks s t) : Kr s t := ⟨.inl h.1, h.2⟩
theorem Zmr (r : Rg) (n : Int) (v : Nat) : (r.setPair n v).im = r.im := (Rg.sp_im r n v).1
theorem Zms (r : Rg) (n : Int) (v : Nat) : (r.setPair n v).px = r.px := (Rg.sp_im r n v).2
theorem Uj (s : Cs) (z b : Nat) : Ks s (s.manyOne z b) := by
 unfold Cs.manyOne Cs.manyLoad Cs.manySeek Cs.manyIn Cs.manyOut Cs.less Cs.shift Cs.setPair Ks
 (repeat' split) <;> simp only [Zmr, Zms, and_self]
theorem Zj3 (s : Cs) (y z : Nat) : Ks s (s.many y z) := by
 unfold Cs.many
 cases s.goesOn y z
 ·exact Uj _ _ _
 ·show Ks s ((s.manyOne z (byN (decide (y % 2 ≠ 0)))).again z)
  refine Ks.then_ (Uj s z (byN (decide (y % 2 ≠ 0)))) ?_
  unfold Cs.again; split <;> exact ⟨rfl, rfl⟩
theorem Za3 (s : Cs) (y z : Nat) : Kr s (s.rareOne y z) := by
 unfold Cs.rareOne; (repeat' split)
 ·exact Ks.r (Rg.so_im _ _ _ _)
 ·exact Ks.r ⟨rfl, rfl⟩
 ·exact Ks.r (Rg.sp_im _ _ _)
 ·exact Ks.r (VP _ _ _)
 ·exact Ks.r ⟨rfl, rfl⟩
 ·exact Ks.r ⟨rfl, rfl⟩
 ·exact ⟨.inr (by show modeV y ≤ 2; unfold modeV; (repeat' split) <;> decide), rfl⟩
 ·refine Ks.r ?_
  unfold Cs.odd; (repeat' split) <;> exact ⟨rfl, rfl⟩
theorem Zj4 (s : Cs) (x y z : Nat) : Kr s (s.rare x y z) := by
 unfold Cs.rare; (repeat' split)
 ·exact Za3 _ _ _
 ·exact Ks.r (Zj3 _ _ _)
 ·exact Ks.r .same
theorem step_right (s : Cs) (h : s.r.right = true) : s.step.r.right = true := by
 have key : ∀ t : Cs, t.r.im ≤ 2 → (t.r.px = 0 ∨ t.r.px = 221 ∨ t.r.px = 253) → t.r.right = true := by
  intro t h1 h2
  unfold Rg.right
  rcases h2 with h2 | h2 | h2 <;> simp [h1, h2]
 have hi : s.r.im ≤ 2 ∧ (s.r.px = 0 ∨ s.r.px = 221 ∨ s.r.px = 253) := by
  unfold Rg.right at h
  simp only [Bool.and_eq_true, Bool.or_eq_true, decide_eq_true_eq] at h
  exact ⟨h.1, by rcases h.2 with (h | h) | h <;> simp [h]⟩
 unfold Cs.step
 cases s.r.ht
 ·have ks : ∀ t : Cs, Kr s.begun.fetch t → t.r.right = true := by
   rintro t ⟨h1, h2⟩
   refine key t ?_ (.inl h2)
   rcases h1 with h1 | h1
   ·exact Nat.le_trans (Nat.le_of_eq h1) hi.1
   ·exact h1
  show (s.begun.fetch.perform s.begun.nextV).r.right = true
  obtain ⟨t, ht⟩ : ∃ t, s.begun.fetch = t := ⟨_, rfl⟩
  obtain ⟨o, ho⟩ : ∃ o, s.begun.nextV = o := ⟨_, rfl⟩
  have ti : t.r.im ≤ 2 := by rw [← ht]; exact hi.1
  rw [ht] at ks
  rw [ht, ho]
  unfold Cs.perform; (repeat' split)
  ·rename_i h; exact key (t.setPX o) ti (.inr (.inl h))
  ·rename_i h; exact key (t.setPX o) ti (.inr (.inr h))
  ·have h1 := Zj4 ((t.ahead 0).fetch) (xOf t.nextV) (yOf t.nextV) (zOf t.nextV)
   exact ks _ h1
  ·exact ks _ (Ks.r (Zd3 _))
  ·exact ks _ (Ks.r (Zgd _ _ _ _))
 ·exact key _ hi.1 hi.2
theorem jX (s : Cs) : Ks s s.lineCame := by
 unfold Cs.lineCame; split
 ·generalize (s.push s.r.pc).numV (s.r.i * 256 + 255) = v
  exact ((Zd1 s s.r.pc).then_ (Zmp (s.push s.r.pc) _)).then_ (Zj2 ((s.push s.r.pc).num (s.r.i * 256 + 255)) v)
 ·exact Vh _ _
theorem Zj5 (s : Cs) : Ks s (s.setQ1 false).wake := ⟨rfl, rfl⟩
theorem Zj6 (s : Cs) : Ks s ((s.setQ1 false).setQ2 false).wake := ⟨rfl, rfl⟩
theorem inter_right (s : Cs) (p l : Bool) (h : s.r.right = true) : (s.inter p l).r.right = true := by
 have e : (s.inter p l).r.im = s.r.im ∧ (s.inter p l).r.px = s.r.px := by
  unfold Cs.inter
  cases s.takes p l
  ·exact ⟨rfl, rfl⟩
  ·cases p
   ·exact (Zj6 s).then_ (jX _)
   ·exact (Zj5 s).then_ (Vh _ _)
 unfold Rg.right at h ⊢
 rw [e.1, e.2]; exact h
end Cs
inductive Kd
 | k0 (s : Tx)
 | k1 (a c : Tx)
 | k2 (a c d : Tx)
 | k3 (a c : Tx)
 | k4 (a c : Tx)
 | k5 (a c : Tx)
def freeC (x : UInt8) : Bool := x != 43 && (x != 110 && x != 101)
def KY (t : Tx) : Bool := t.all freeC
def Kd.ok : Kd → Bool
 | .k0 s => KY s
 | .k1 a c => KY a && KY c
 | .k2 a c d => KY a && (KY c && KY d)
 | .k3 a c => KY a && KY c
 | .k4 a c => KY a && KY c
 | .k5 a c => KY a && KY c
def Kd.at (p : Nat) : Kd → Bool
 | .k1 _ _ => Nat.ble 3 p
 | .k2 _ _ _ => Nat.ble 3 p && Nat.ble p 4
 | _ => Nat.ble p 4
def dol (v : Nat) : Tx := [36] ++ hex2 v
def dol2 (a b : Nat) : Tx := [36] ++ (hex2 b ++ hex2 a)
def Kd.out (bs : List Nat) (nx : Nat) : Kd → Tx × Nat
 | .k0 s => (s, nx)
 | .k1 a c => (a ++ (sgn (bs.getD nx 0) ++ c), nx + 1)
 | .k2 a c d => ((a ++ (sgn (bs.getD nx 0) ++ c)) ++ (dol (bs.getD (nx + 1) 0) ++ d), nx + 2)
 | .k3 a c => (a ++ (dol2 (bs.getD nx 0) (bs.getD (nx + 1) 0) ++ c), nx + 2)
 | .k4 a c => (a ++ (dol (bs.getD nx 0) ++ c), nx + 1)
 | .k5 a c => (a ++ (sgn (bs.getD nx 0) ++ c), nx + 1)
end
end Go.Proofs.YtgdeeiimkhjfiaaGreatDoor
set_option linter.unusedSimpArgs false
set_option linter.unusedVariables false
namespace Go.Proofs.YtgdeeiimkhjfiaaGreatDoor
open Go.RowKit
section
variable {W0 w : World} {x b tq n c : Nat} {s : Cs} {ix : Bool} {pg : Int} {l : Zj}
def Kd.more : Kd → Nat
 | .k0 _ => 0
 | .k1 _ _ => 1
 | .k2 _ _ _ => 2
 | .k3 _ _ => 2
 | .k4 _ _ => 1
 | .k5 _ _ => 1
end
end Go.Proofs.YtgdeeiimkhjfiaaGreatDoor
set_option linter.unusedSimpArgs false
set_option linter.unusedVariables false
namespace Go.Proofs.YtgdeeiimkhjfiaaGreatDoor
open Go.RowKit
section
variable {W0 w : World} {x b tq n c : Nat} {s : Cs} {ix : Bool} {pg : Int} {l : Zj}
def Zkh (s t : Cs) (n : Nat) : Prop := t.r.pc = (s.r.pc + n) % 65536 ∧ t.r.r = s.r.r
namespace Zkh
variable {s t : Cs}
theorem same (hp : s.r.pc < 65536) (h1 : t.r.pc = s.r.pc) (h2 : t.r.r = s.r.r) : Zkh s t 0 := ⟨by rw [h1]; omega, h2⟩
theorem then_ {u : Cs} {n m : Nat} (h : Zkh s t n) (k : Zkh t u m) : Zkh s u (n + m) := ⟨by rw [k.1, h.1]; omega, k.2.trans h.2⟩
end Zkh
namespace Cs
def Few (n : Nat) : Prop := 4 ≤ n ∧ n ≤ 23
theorem U9 (b : Bool) (x y : Nat) (hx : Few x) (hy : Few y) : Few (cond b x y) := by cases b; exact hy; exact hx
theorem Uk (s : Cs) (x y : Nat) (hx : Few x) (hy : Few y) : Few (s.either x y) := by unfold Cs.either; split <;> assumption
theorem Zj7 (b : Bool) (k : Nat) (h : Few k) (h' : Few (k - 5)) : Few (Cs.hopC b k) := by cases b; exact h'; exact h
theorem Za4 (s : Cs) (y : Nat) : Few (s.startsC y) := by
 unfold Cs.startsC
 (repeat' split) <;> first | exact Zj7 _ _ (by unfold Few; decide) (by unfold Few; decide) | (unfold Few; decide)
theorem Zj8 (y : Nat) : Few (Cs.moveFarC y) := by
 unfold Cs.moveFarC
 (repeat' split) <;> (unfold Few; decide)
theorem k52 {P : Prop} (h : P := by
 split
 ·exact Uk s _ _ (by unfold Few; decide) (by unfold Few; decide)
 ·unfold Few; decide) : P := h
theorem Zd4 (s : Cs) (y : Nat) : Few (s.countC y) := by
 unfold Cs.countC
 exact k52
theorem zD (s : Cs) (y : Nat) : Few (s.moveNextC y) := by
 unfold Cs.moveNextC
 exact k52
theorem Zge (s : Cs) (y z : Nat) : Few (s.moveC y z) := by
 unfold Cs.moveC
 (repeat' split) <;> first | exact Uk s _ _ (by unfold Few; decide) (by unfold Few; decide) | (unfold Few; decide)
theorem Zgf (s : Cs) (z : Int) : Few (s.operC z) := by
 unfold Cs.operC
 exact k52
theorem Za5 (s : Cs) (y z : Nat) : Few (s.plain0C y z) := by
 unfold Cs.plain0C
 (repeat' split) <;> first | exact Za4 s y | exact Zj8 y | exact Zd4 s y | exact zD s y | (unfold Few; decide)
theorem Zd5 (y : Nat) : Few (Cs.mixedC y) := by
 unfold Cs.mixedC
 (repeat' split) <;> (unfold Few; decide)
theorem jY (p : Nat) : Few (Cs.lastOddC p) := by
 unfold Cs.lastOddC
 (repeat' split) <;> (unfold Few; decide)
theorem Za6 (s : Cs) (y z : Nat) : Few (s.plain3C y z) := by
 unfold Cs.plain3C
 (repeat' split) <;> first | exact U9 _ _ _ (by unfold Few; decide) (by unfold Few; decide) | exact Zd5 y | exact jY _ | (unfold Few; decide)
theorem Zd6 (s : Cs) (x y z : Nat) : Few (s.plainC x y z) := by
 unfold Cs.plainC
 (repeat' split) <;> first | exact Za5 s y z | exact Zge s y z | exact Zgf s _ | exact Za6 s y z
theorem Zj9 (y : Nat) : Few (Cs.oddC y) := by
 unfold Cs.oddC
 (repeat' split) <;> (unfold Few; decide)
theorem jZ (y z : Nat) : Few (Cs.rareOneC y z) := by
 unfold Cs.rareOneC
 (repeat' split) <;> first | exact Zj9 y | (unfold Few; decide)
theorem Zgg (s : Cs) (x y z : Nat) : Few (s.rareC x y z) := by
 unfold Cs.rareC
 (repeat' split) <;> first | exact jZ y z | exact U9 _ _ _ (by unfold Few; decide) (by unfold Few; decide) | (unfold Few; decide)
theorem Zgh (x k : Nat) (h : Few k) (h' : Few (k - 3)) : Few (Cs.bitsC x k) := by unfold Cs.bitsC; split <;> assumption
theorem Za7 (s : Cs) : Few s.onBitsC := by
 unfold Cs.onBitsC
 (repeat' split) <;> first | exact Zgh _ _ (by unfold Few; decide) (by unfold Few; decide) | (unfold Few; decide)
theorem j3 (s : Cs) (o : Nat) : Few (s.performC o) := by
 unfold Cs.performC
 (repeat' split) <;> first | exact Zgg _ _ _ _ | exact Za7 s | exact Zd6 s _ _ _ | (unfold Few; decide)
theorem few_step (s : Cs) : Few s.stepC := by
 unfold Cs.stepC
 exact U9 _ _ _ (by unfold Few; decide) (j3 _ _)
end Cs
theorem Cs.goTo_numV (s : Cs) (c a : Nat) : (s.goTo c).numV a = s.numV a := rfl
theorem Cs.line_as (s : Cs) (z : Nat) : (((s.setQ1 false).wake).push z).setQ2 false = (((s.setQ1 false).setQ2 false).wake).push z := by rw [Cs.push_q2, Cs.wake_q2]
theorem Zd7 (pause line : Bool) (hr : s.r.Fits) (h : Hid (Fx W0 w b s.u l (n + 4))) :
  CX 13 #[s.r.v, .pointer (some ⟨b, 0, none⟩), .bool pause, .bool line] w (.tuple #[(s.inter pause line).r.v, .int .i64 ((s.interC pause line : Nat) : Int)]) fun w' => Hid (Fx W0 w' b (s.inter pause line).u l n) := by
 unfold Cs.inter Cs.interC
 by_cases hp : s.r.px = 0
 ·have e0 : Nat.beq s.r.px 0 = true := by rw [hp]; rfl
  cases pause
  ·cases line
   ·have e : s.takes false false = false := by unfold Cs.takes; rw [e0]; rfl
    rw [e]; exact Zif hp hr h
   ·cases h1 : s.r.q1
    ·have e : s.takes false true = false := by unfold Cs.takes; rw [e0, h1]; rfl
     rw [e]; exact Zig hp h1 hr h
    ·cases h2 : s.r.dl
     ·have e : s.takes false true = true := by unfold Cs.takes; rw [e0, h1, h2]; rfl
      rw [e]
      obtain ⟨z, hz⟩ : ∃ z, Hid (s.r.pc = z) := ⟨_, rfl⟩
      obtain ⟨Y, hY⟩ : ∃ Y, ((s.setQ1 false).setQ2 false).wake = Y := ⟨_, rfl⟩
      have yi : Y.r.i = s.r.i := by rw [← hY]; rfl
      have yz : Y.r.pc = z := by rw [← hY]; exact hz.out
      have ym : Y.r.im = s.r.im := by rw [← hY]; rfl
      by_cases hi : s.r.im = 2
      ·have r2 := Zc9 (n := n) hp h1 h2 hi z hz hr h
       rw [Cs.line_as, hY] at r2
       have e2 : Y.lineCame = ((((Y.push z).goTo 56).num (s.r.i * 256 + 255)).goTo (((Y.push z).goTo 56).numV (s.r.i * 256 + 255))) := by
        unfold Cs.lineCame; rw [if_pos (ym.trans hi), yi, yz, Cs.goTo_num, Cs.goTo_numV]
       have e3 : s.lineCameC = 19 := if_pos hi
       simp only [cond_true, cond_false, hY, e2, e3]
       exact r2
      ·have r2 := Zfa (n := n) hp h1 h2 hi z hz hr h
       rw [Cs.line_as, hY] at r2
       have e2 : Y.lineCame = (Y.push z).goTo 56 := by
        unfold Cs.lineCame; rw [if_neg (fun c => hi (ym.symm.trans c))]; unfold Cs.start; rw [yz]
       have e3 : s.lineCameC = 13 := if_neg hi
       simp only [cond_true, cond_false, hY, e2, e3]
       exact r2
     ·have e : s.takes false true = false := by unfold Cs.takes; rw [e0, h1, h2]; rfl
      rw [e]; exact Zih hp h1 h2 hr h
  ·have e : s.takes true line = true := by unfold Cs.takes; rw [e0]; rfl
   rw [e]; exact Zc8 line hp hr h
 ·have e0 : Nat.beq s.r.px 0 = false := by rw [← Bool.not_eq_true, Nat.beq_eq]; exact hp
  have e : s.takes pause line = false := by unfold Cs.takes; rw [e0]; rfl
  rw [e]; exact ZkW pause line hp hr h
open Go.ChangeShapes Go.WideShapes Go.ChangeAt Go.RowKit
section
variable {H : Type} {enc : TypeId × Value → H} {W : World} {fuel : Nat} {y : DataW H × List MemPlace}
theorem kU8 : Tryz.prog.cellsOf 5 = 1 := by kernel_rfl
theorem kU16 : Tryz.prog.cellsOf 23 = 1 := by kernel_rfl
theorem kBool : Tryz.prog.cellsOf 4 = 1 := by kernel_rfl
theorem kAlt : Tryz.prog.cellsOf 22 = 8 := by kernel_rfl
theorem kRegs : Tryz.prog.cellsOf 25 = 29 := by kernel_rfl
theorem Kj {c : Value} (h : DataW.trod enc Tryz.prog W 0 (fun _ => true) true fuel 4 [c] = some y) : ∃ n, c = .bool n := by
 obtain ⟨a, e, -⟩ := DataW.trod_bool Tryz.underlying4 h
 simp at e; exact ⟨a, e⟩
theorem ZX {c : Value} (h : DataW.trod enc Tryz.prog W 0 (fun _ => true) true fuel 5 [c] = some y) : ∃ n : Nat, c = .int .u8 (n : Int) ∧ n < 256 := by
 obtain ⟨a, e, -, w⟩ := DataW.trod_int Tryz.underlying5 h
 simp at e
 have := bounds_u8 w
 obtain ⟨n, rfl⟩ := Int.eq_ofNat_of_zero_le this.1
 exact ⟨n, e, by omega⟩
theorem Kk {c : Value} (h : DataW.trod enc Tryz.prog W 0 (fun _ => true) true fuel 23 [c] = some y) : ∃ n : Nat, c = .int .u16 (n : Int) ∧ n < 65536 := by
 obtain ⟨a, e, -, w⟩ := DataW.trod_int Tryz.underlying23 h
 simp at e
 have := bounds_u16 w
 obtain ⟨n, rfl⟩ := Int.eq_ofNat_of_zero_le this.1
 exact ⟨n, e, by omega⟩
theorem Zgi {a0 a1 a2 a3 a4 a5 a6 a7 : Value} (h : DataW.trod enc Tryz.prog W 0 (fun _ => true) true fuel 22 [a0, a1, a2, a3, a4, a5, a6, a7] = some y) :
  ∃ n0 n1 n2 n3 n4 n5 n6 n7 : Nat, (a0 = .int .u8 (n0 : Int) ∧ a1 = .int .u8 (n1 : Int) ∧ a2 = .int .u8 (n2 : Int) ∧ a3 = .int .u8 (n3 : Int) ∧ a4 = .int .u8 (n4 : Int) ∧ a5 = .int .u8 (n5 : Int) ∧ a6 = .int .u8 (n6 : Int) ∧ a7 = .int .u8 (n7 : Int)) ∧ n0 < 256 ∧ n1 < 256 ∧ n2 < 256 ∧ n3 < 256 ∧ n4 < 256 ∧ n5 < 256 ∧ n6 < 256 ∧ n7 < 256 := by
 obtain ⟨xs, m, rfl, -, hlen, hn, hel⟩ := DataW.trod_array Tryz.underlying22 h
 match xs, hn, hel with
 | [x0, x1, x2, x3, x4, x5, x6, x7], _, hel =>
  have h0 := hel 0 (by decide)
  have h1 := hel 1 (by decide)
  have h2 := hel 2 (by decide)
  have h3 := hel 3 (by decide)
  have h4 := hel 4 (by decide)
  have h5 := hel 5 (by decide)
  have h6 := hel 6 (by decide)
  have h7 := hel 7 (by decide)
  simp [kU8] at h0 h1 h2 h3 h4 h5 h6 h7
  obtain ⟨n0, rfl, b0⟩ := ZX h0
  obtain ⟨n1, rfl, b1⟩ := ZX h1
  obtain ⟨n2, rfl, b2⟩ := ZX h2
  obtain ⟨n3, rfl, b3⟩ := ZX h3
  obtain ⟨n4, rfl, b4⟩ := ZX h4
  obtain ⟨n5, rfl, b5⟩ := ZX h5
  obtain ⟨n6, rfl, b6⟩ := ZX h6
  obtain ⟨n7, rfl, b7⟩ := ZX h7
  exact ⟨n0, n1, n2, n3, n4, n5, n6, n7, ⟨rfl, rfl, rfl, rfl, rfl, rfl, rfl, rfl⟩, b0, b1, b2, b3, b4, b5, b6, b7⟩
theorem Za8 {cs : List Value} (h : DataW.trod enc Tryz.prog W 0 (fun _ => true) true fuel 25 cs = some y) : ∃ r : Rg, cs = r.cells ∧ r.Fits := by
 obtain ⟨xs, n, -, -, hl, hxs, hf⟩ := DataW.trod_struct Tryz.underlying25 h
 rw [kRegs] at hl
 match cs, hl, xs, hxs with
 | [c0, c1, c2, c3, c4, c5, c6, c7, c8, c9, c10, c11, c12, c13, c14, c15, c16, c17, c18, c19, c20, c21, c22, c23, c24, c25, c26, c27, c28], _, [y0, y1, y2, y3, y4, y5, y6, y7, y8, y9, y10, y11, y12, y13, y14, y15, y16, y17, y18, y19, y20, y21], _ =>
  have h0 := hf 0 _ rfl
  simp [kU8] at h0
  have h1 := hf 1 _ rfl
  simp [kU8] at h1
  have h2 := hf 2 _ rfl
  simp [kU8] at h2
  have h3 := hf 3 _ rfl
  simp [kU8] at h3
  have h4 := hf 4 _ rfl
  simp [kU8] at h4
  have h5 := hf 5 _ rfl
  simp [kU8] at h5
  have h6 := hf 6 _ rfl
  simp [kU8] at h6
  have h7 := hf 7 _ rfl
  simp [kU8] at h7
  have h8 := hf 8 _ rfl
  simp [kAlt] at h8
  have h9 := hf 9 _ rfl
  simp [kU16] at h9
  have h10 := hf 10 _ rfl
  simp [kU16] at h10
  have h11 := hf 11 _ rfl
  simp [kU16] at h11
  have h12 := hf 12 _ rfl
  simp [kU16] at h12
  have h13 := hf 13 _ rfl
  simp [kU16] at h13
  have h14 := hf 14 _ rfl
  simp [kU8] at h14
  have h15 := hf 15 _ rfl
  simp [kU8] at h15
  have h16 := hf 16 _ rfl
  simp [kU8] at h16
  have h17 := hf 17 _ rfl
  simp [kU8] at h17
  have h18 := hf 18 _ rfl
  simp [kBool] at h18
  have h19 := hf 19 _ rfl
  simp [kBool] at h19
  have h20 := hf 20 _ rfl
  simp [kBool] at h20
  have h21 := hf 21 _ rfl
  simp [kBool] at h21
  clear hf
  obtain ⟨n0, rfl, b0⟩ := ZX h0
  obtain ⟨n1, rfl, b1⟩ := ZX h1
  obtain ⟨n2, rfl, b2⟩ := ZX h2
  obtain ⟨n3, rfl, b3⟩ := ZX h3
  obtain ⟨n4, rfl, b4⟩ := ZX h4
  obtain ⟨n5, rfl, b5⟩ := ZX h5
  obtain ⟨n6, rfl, b6⟩ := ZX h6
  obtain ⟨n7, rfl, b7⟩ := ZX h7
  obtain ⟨n8, n9, n10, n11, n12, n13, n14, n15, ⟨rfl, rfl, rfl, rfl, rfl, rfl, rfl, rfl⟩, b8, b9, b10, b11, b12, b13, b14, b15⟩ := Zgi h8
  obtain ⟨n16, rfl, b16⟩ := Kk h9
  obtain ⟨n17, rfl, b17⟩ := Kk h10
  obtain ⟨n18, rfl, b18⟩ := Kk h11
  obtain ⟨n19, rfl, b19⟩ := Kk h12
  obtain ⟨n20, rfl, b20⟩ := Kk h13
  obtain ⟨n21, rfl, b21⟩ := ZX h14
  obtain ⟨n22, rfl, b22⟩ := ZX h15
  obtain ⟨n23, rfl, b23⟩ := ZX h16
  obtain ⟨n24, rfl, b24⟩ := ZX h17
  obtain ⟨n25, rfl⟩ := Kj h18
  obtain ⟨n26, rfl⟩ := Kj h19
  obtain ⟨n27, rfl⟩ := Kj h20
  obtain ⟨n28, rfl⟩ := Kj h21
  exact ⟨⟨n0, n1, n2, n3, n4, n5, n6, n7, n8, n9, n10, n11, n12, n13, n14, n15, n16, n17, n18, n19, n20, n21, n22, n23, n24, n25, n26, n27, n28⟩, rfl, ⟨b0, b1, b2, b3, b4, b5, b6, b7, b8, b9, b10, b11, b12, b13, b14, b15, b16, b17, b18, b19, b20, b21, b22, b23, b24⟩⟩
end
theorem Zka {H : Type} {enc : TypeId × Value → H} {W : World} {b0 : Nat} {v : Value} {d : DataW H} {q : List MemPlace} (hv : Value.okWide Tryz.prog W .any b0 25 v) (h : DataW.Trod enc Tryz.prog W 0 (fun _ => true) true 25 v d q) :
  ∃ r : Rg, v = r.v ∧ r.Fits := by
 obtain ⟨cs, rfl, hsz⟩ := okWide_struct Tryz.underlying25 hv
 obtain ⟨fuel, hf⟩ := h
 obtain ⟨r, e, hF⟩ := Za8 hf
 refine ⟨r, ?_, hF⟩
 obtain ⟨l⟩ := cs
 simp [Value.cells] at e
 rw [e]
end
end Go.Proofs.YtgdeeiimkhjfiaaGreatDoor
