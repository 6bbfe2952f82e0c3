import Derived.Test.YtgdeeiimkhjfiaaGreatDoorV21
import Derived.Laws.AppendOwn
import Derived.Laws.OwnMore
import Derived.Laws.BytesArg
import Derived.Lib.IndexMore
set_option maxRecDepth 100000
set_option maxHeartbeats 6400000
namespace Go.Proofs.YtgdeeiimkhjfiaaGreatDoor
open Go.RowKit
section
variable {W0 w : World} {x b tq n c : Nat} {s : Cs} {ix : Bool} {pg : Int} {l : Zj}
def rgName : Nat → ByteArray
 | 0 => ⟨#[66, 67]⟩
 | 1 => ⟨#[68, 69]⟩
 | 2 => ⟨#[72, 76]⟩
 | 3 => ⟨#[83, 80]⟩
 | 4 => ⟨#[65, 70]⟩
 | 5 => ⟨#[73, 88]⟩
 | _ => ⟨#[73, 89]⟩
def KW (n : Int) (px : Nat) : ByteArray :=
 if n = 0 then ⟨#[66]⟩ else if n = 1 then ⟨#[67]⟩ else if n = 2 then ⟨#[68]⟩ else if n = 3 then ⟨#[69]⟩ else if n = 7 then ⟨#[65]⟩
 else if n = 4 then (if px = 221 then ⟨#[73, 88, 72]⟩ else if px = 253 then ⟨#[73, 89, 72]⟩ else ⟨#[72]⟩) else if n = 5 then (if px = 221 then ⟨#[73, 88, 76]⟩ else if px = 253 then ⟨#[73, 89, 76]⟩ else ⟨#[76]⟩) else ⟨#[]⟩
theorem Zda (r : Rg) (hr : r.Fits) (k : Nat) (hk : k < 7) (P : Nat) (hP : Hid (r.pair (k : Int) = P)) (w : World) : CB 43 #[r.v, .string (rgName k)] w (.int .i64 (P : Int)) := by
 rw [← hP.out]
 match k, hk with
 | 0, _ => exact Zii r hr.b hr.c w
 | 1, _ => exact Zij r hr.d hr.e w
 | 2, _ => exact Zik r hr.h hr.l w
 | 3, _ => exact ZcY r hr.sp w
 | 4, _ => exact Zil r hr.a hr.f w
 | 5, _ => exact Zh7 r hr.ix w
 | 6, _ => exact Zh8 r hr.iy w
theorem Zdb (r : Rg) (k : Nat) (hk : k < 7) (v : Nat) (hv : v < 65536) (s : Rg) (hs : Hid (r.setPair (k : Int) v = s)) (w : World) : CB 99 #[r.v, .string (rgName k), .int .i64 (v : Int)] w s.v := by
 rw [← hs.out]
 match k, hk with
 | 0, _ => exact Zim r v hv w
 | 1, _ => exact Zin r v hv w
 | 2, _ => exact Zio r v hv w
 | 3, _ => exact Zc6 r v hv w
 | 4, _ => exact Zip r v hv w
 | 5, _ => exact Zh9 r v hv w
 | 6, _ => exact Zia r v hv w
def nameCells : List Value := [.string ⟨#[66, 67]⟩, .string ⟨#[68, 69]⟩, .string ⟨#[72, 76]⟩, .string ⟨#[83, 80]⟩, .string ⟨#[65, 70]⟩, .string ⟨#[73, 88]⟩, .string ⟨#[73, 89]⟩]
theorem Ziq (k : Nat) (hk : k < 7) : nameCells[k]? = some (.string (rgName k)) := by
 match k, hk with
 | 0, _ => rfl
 | 1, _ => rfl
 | 2, _ => rfl
 | 3, _ => rfl
 | 4, _ => rfl
 | 5, _ => rfl
 | 6, _ => rfl
theorem Own.plus {W0 w w' : World} {l : List (Nat × TypeId × List Value)} {g : Nat} {t : TypeId} {cs : List Value} (h : Own W0 w l) (hb : Below w.heap.size w w') (hg : w.heap.size ≤ g) (hW : ZL w' g t cs) : Own W0 w' ((g, t, cs) :: l) := by
 have h' := h.call hb
 refine ⟨h'.below, ?_, ?_⟩
 ·intro e he
  rcases List.mem_cons.1 he with rfl | he
  ·exact ⟨Nat.le_trans h.below.size hg, hW⟩
  ·exact h'.whole e he
 ·refine .cons (fun e he => ?_) h'.apart
  have := (h.whole e he).2.inside
  show g ≠ e.1
  omega
theorem Rg.join_h (r : Rg) (hl : r.l < 256) (v : Nat) : ({ r with h := (v * 256 + (r.h * 256 + r.l) % 256) / 256, l := (v * 256 + (r.h * 256 + r.l) % 256) % 256 } : Rg) = { r with h := v } := by
 have e1 : (v * 256 + (r.h * 256 + r.l) % 256) / 256 = v := by omega
 have e2 : (v * 256 + (r.h * 256 + r.l) % 256) % 256 = r.l := by omega
 rw [e1, e2]
theorem Rg.join_l (r : Rg) (hl : r.l < 256) (v : Nat) (hv : v < 256) : ({ r with h := ((r.h * 256 + r.l) / 256 * 256 + v) / 256, l := ((r.h * 256 + r.l) / 256 * 256 + v) % 256 } : Rg) = { r with l := v } := by
 have e1 : ((r.h * 256 + r.l) / 256 * 256 + v) / 256 = r.h := by omega
 have e2 : ((r.h * 256 + r.l) / 256 * 256 + v) % 256 = v := by omega
 rw [e1, e2]
theorem Zfb (r : Rg) (hr : r.Fits) (n : Int) (px : Nat) (hn : 0 ≤ n ∧ n ≤ 7 ∧ ¬ n = 6) (L : ByteArray) (hL : Hid (KW n px = L)) (O : Nat) (hO : Hid (r.one n px = O)) (w : World) :
  CB 43 #[r.v, .string L] w (.int .i64 (O : Int)) := by
 rw [← hL.out, ← hO.out]
 rcases (show n = 0 ∨ n = 1 ∨ n = 2 ∨ n = 3 ∨ n = 7 ∨ n = 4 ∨ n = 5 by omega) with rfl | rfl | rfl | rfl | rfl | rfl | rfl
 ·exact ZcS r hr.b w
 ·exact ZcT r hr.c w
 ·exact ZcU r hr.d w
 ·exact ZcV r hr.e w
 ·exact ZcR r hr.a w
 ·by_cases h3 : px = 221
  ·subst h3; exact Ze0 r hr.ix w
  ·by_cases h4 : px = 253
   ·subst h4; exact Ze2 r hr.iy w
   ·have e : KW 4 px = ⟨#[72]⟩ := by simp [KW, h3, h4]
    have e2 : r.one 4 px = r.h := by
     have := hr.l
     have e3 : r.one 4 px = (r.h * 256 + r.l) / 256 := by simp [Rg.one, ZT, h3, h4, Rg.pair]
     omega
    rw [e, e2]; exact ZcW r hr.h w
 ·by_cases h3 : px = 221
  ·subst h3; exact Ze1 r hr.ix w
  ·by_cases h4 : px = 253
   ·subst h4; exact Ze3 r hr.iy w
   ·have e : KW 5 px = ⟨#[76]⟩ := by simp [KW, h3, h4]
    have e2 : r.one 5 px = r.l := by
     have := hr.l
     have e3 : r.one 5 px = (r.h * 256 + r.l) % 256 := by simp [Rg.one, ZT, h3, h4, Rg.pair]
     omega
    rw [e, e2]; exact ZcX r hr.l w
theorem Zfc (r : Rg) (hr : r.Fits) (n : Int) (px : Nat) (hn : 0 ≤ n ∧ n ≤ 7 ∧ ¬ n = 6) (L : ByteArray) (hL : Hid (KW n px = L)) (v : Nat) (hv : v < 256) (s : Rg) (hs : Hid (r.setOne n px v = s)) (w : World) :
  CB 99 #[r.v, .string L, .int .i64 (v : Int)] w s.v := by
 rw [← hL.out, ← hs.out]
 rcases (show n = 0 ∨ n = 1 ∨ n = 2 ∨ n = 3 ∨ n = 7 ∨ n = 4 ∨ n = 5 by omega) with rfl | rfl | rfl | rfl | rfl | rfl | rfl
 ·exact Zc0 r v hv w
 ·exact Zc1 r v hv w
 ·exact Zc2 r v hv w
 ·exact Zc3 r v hv w
 ·exact ZcZ r v hv w
 ·by_cases h3 : px = 221
  ·subst h3; exact Ze4 r hr.ix v hv w
  ·by_cases h4 : px = 253
   ·subst h4; exact Ze6 r hr.iy v hv w
   ·have e : KW 4 px = ⟨#[72]⟩ := by simp [KW, h3, h4]
    have e2 : r.setOne 4 px v = { r with h := v } := by
     rw [← r.join_h hr.l v]; simp [Rg.setOne, ZT, h3, h4, Rg.pair, Rg.setPair]
    rw [e, e2]; exact Zc4 r v hv w
 ·by_cases h3 : px = 221
  ·subst h3; exact Ze5 r hr.ix v hv w
  ·by_cases h4 : px = 253
   ·subst h4; exact Ze7 r hr.iy v hv w
   ·have e : KW 5 px = ⟨#[76]⟩ := by simp [KW, h3, h4]
    have e2 : r.setOne 5 px v = { r with l := v } := by
     rw [← r.join_l hr.l v hv]; simp [Rg.setOne, ZT, h3, h4, Rg.pair, Rg.setPair]
    rw [e, e2]; exact Zc5 r v hv w
theorem Zdc (w : World) : Calls Tryz.prog 162 #[] w fun e w' => ∃ g, w.heap.size ≤ g ∧ e = .returned (.slice (some ⟨g, 0, none⟩) 7 7) ∧ Below w.heap.size w w' ∧ ZL w' g 9 nameCells := by
 go_enter Tryz.func162, Tryz.ntmps162
 go_wp2
 go_ret
 exact ⟨_, Nat.le_refl _, rfl, (Below.refl _ _).alloc (Nat.le_refl _) _, ZL.fresh _ _ _⟩
section
variable {P : Program} {W0 w : World} {x b tq n : Nat} {s s' : Cs} {ix : Bool} {pg : Int} {l : Zj} {ops : Array Oper} {rest : List Oper} {o : Oper} {a : Act} {Q : Exit → Act → World → Prop} {ty : TypeId} {p y : Operand} {i : Nat} {v : Value}
theorem Ex.call {w' : World} (h : Ex W0 w x b s tq ix pg l n) (hb : Below w.heap.size w w') : Ex W0 w' x b s tq ix pg l n := ⟨h.fits, h.fx.call hb⟩
theorem Ex.less {k : Nat} (h : Ex W0 w x b s tq ix pg l n) (hk : k ≤ n) : Ex W0 w x b s tq ix pg l k := ⟨h.fits, h.fx.less hk⟩
theorem Ex.m8 (h : Hid (Ex W0 w x b s tq ix pg l n)) (a : Nat) : s.m a < 256 := h.out.fx.good.1 a
theorem xgY (H : Hid (Ex W0 w x b s tq ix pg l n)) (h : o.op = .load ty p ∧ a.eval p = .pointer (some ⟨x, i, none⟩) ∧ One P ty ∧ (xc s b tq ix pg)[i]? = some v ∧ Region.wanted o (yielded ops a.tmps) = true)
  (k : wpList P ops Q rest (a.put o.dst v) w) : wpList P ops Q (o :: rest) a w := by
 obtain ⟨HF, HG, X, HX, HM⟩ := H.out.hid
 exact Yr HM h.1 h.2.1 h.2.2.1 .z h.2.2.2.1 h.2.2.2.2 k
theorem xrY (H : Hid (Ex W0 w x b s tq ix pg l n)) (h : o.op = .load 25 p ∧ a.eval p = .pointer (some ⟨x, 0, none⟩) ∧ Region.wanted o (yielded ops a.tmps) = true)
  (k : wpList Tryz.prog ops Q rest (a.put o.dst (.agg s.r.cells.toArray)) w) : wpList Tryz.prog ops Q (o :: rest) a w := by
 obtain ⟨HF, HG, X, HX, HM⟩ := H.out.hid
 exact Y6 HM h.1 h.2.1 aggR .z .z xc_take29 h.2.2 k
theorem xlY {r : Rg} (H : Hid (Ex W0 w x b s tq ix pg l n)) (h : o.op = .store 25 p y ∧ a.eval p = .pointer (some ⟨x, 0, none⟩) ∧ a.eval y = v ∧ v.cells = r.cells.toArray ∧ r.Fits ∧ Region.wanted o (yielded ops a.tmps) = true ∧ o.dst = none)
  (k : ∀ w', Hid (Ex W0 w' x b (s.setR r) tq ix pg l n) → wpList Tryz.prog ops Q rest a w') : wpList Tryz.prog ops Q (o :: rest) a w := by
 obtain ⟨HF, HG, X, HX, HM⟩ := H.out.hid
 exact Z8 HM h.1 h.2.1 h.2.2.1 h.2.2.2.1 .z (W5 _) .z aggR.size (Rg.cells_length _) (Rg.one1 _) h.2.2.2.2.2.1 h.2.2.2.2.2.2 fun w' HM' => k w' (Zb (Ex.made HM'.out HG.out HX.out h.2.2.2.2.1))
theorem xpY {tq' : Nat} {ix' : Bool} {pg' : Int} (H : Hid (Ex W0 w x b s tq ix pg l n)) (h : o.op = .store ty p y ∧ a.eval p = .pointer (some ⟨x, i, none⟩) ∧ a.eval y = v ∧ (xc s b tq ix pg).set i v = xc s' b tq' ix' pg' ∧ (s'.u = s.u ∧ (s.r.Fits → s'.r.Fits)) ∧ j5 P ty 1 ∧ v.oneCell' = true ∧ Region.wanted o (yielded ops a.tmps) = true ∧ i < 33 ∧ o.dst = none)
  (k : ∀ w', Hid (Ex W0 w' x b s' tq' ix' pg' l n) → wpList P ops Q rest a w') : wpList P ops Q (o :: rest) a w := by
 obtain ⟨HF, HG, X, HX, HM⟩ := H.out.hid
 obtain ⟨h1, h2, h3, h4, ⟨h5, h6⟩, h7, h8, h9, h10, h11⟩ := h
 exact Ye HM h1 h2 h3 .z h4 .z h7 h8 h9 (by rw [xc_length]; exact h10) h11 fun w' HM' => k w' (Zb (Ex.made HM'.out (h5 ▸ HG.out) (h5 ▸ HX.out) (h6 HF.out)))
end
section
variable {s : Cs} {b tq : Nat} {ix : Bool} {pg : Int}
theorem xc_a {v : Nat} : (xc s b tq ix pg).set 0 (.int .u8 (v : Int)) = xc (s.setA v) b tq ix pg := rfl
theorem Zkd {v : Nat} : (xc s b tq ix pg).set 1 (.int .u8 (v : Int)) = xc (s.setF v) b tq ix pg := rfl
theorem ZkX {v : Nat} : (xc s b tq ix pg).set 23 (.int .u8 (v : Int)) = xc (s.setIM v) b tq ix pg := rfl
theorem ZkY {v : Nat} : (xc s b tq ix pg).set 24 (.int .u8 (v : Int)) = xc (s.setPX v) b tq ix pg := rfl
theorem ZkZ {v : Bool} : (xc s b tq ix pg).set 28 (.bool v) = xc (s.setDL v) b tq ix pg := rfl
theorem Zk0 {v : Nat} : (xc s b tq ix pg).set 30 (.int .u16 (v : Int)) = xc s b v ix pg := rfl
theorem Zk1 {v : Bool} : (xc s b tq ix pg).set 31 (.bool v) = xc s b tq v pg := rfl
theorem jz {v : Int} : (xc s b tq ix pg).set 32 (.int .i64 v) = xc s b tq ix v := rfl
end
theorem xone {P : Prop} (h : P := by first | (with_reducible exact oneU8) | (with_reducible exact oneU16) | (with_reducible exact oneBool) | (with_reducible exact oneWp) | (with_reducible exact oneInt)) : P := h
theorem xsz {P : Prop} (h : P := by first | (with_reducible exact oneU8.size) | (with_reducible exact oneU16.size) | (with_reducible exact oneBool.size) | (with_reducible exact oneInt.size)) : P := h
theorem xset {P : Prop} (h : P := by first | with_reducible exact W6 | with_reducible exact W7 | with_reducible exact xc_a | with_reducible exact Zkd | with_reducible exact Zk0 | with_reducible exact Zk1 | with_reducible exact jz | with_reducible exact W8 | with_reducible exact W9 | with_reducible exact za | with_reducible exact ZkZ | with_reducible exact ZkX | with_reducible exact ZkY | exact W6 | exact W7 | exact xc_a | exact Zkd | exact Zk0 | exact Zk1 | exact jz | exact W8 | exact W9 | exact za | exact ZkZ | exact ZkX | exact ZkY) : P := h
theorem xfit {P : Prop} (h : P := by first | exact ⟨rfl, fun h => { h with pc := by assumption }⟩ | exact ⟨rfl, fun h => { h with wz := by assumption }⟩ | exact ⟨rfl, fun h => { h with a := by assumption }⟩ | exact ⟨rfl, fun h => { h with f := by assumption }⟩ | exact ⟨rfl, fun h => { h with im := by assumption }⟩ | exact ⟨rfl, fun h => { h with px := by assumption }⟩ | exact ⟨rfl, fun h => h⟩ | exact ⟨rfl, fun h => { h with a := h.a }⟩) : P := h
theorem xgS {P : Prop} (h : P := by refine ⟨?_, ?_, ?_, ?_, ?_⟩; exact rfl; exact rfl; exact xone; exact rfl; exact rfl) : P := h
theorem xrS {P : Prop} (h : P := by refine ⟨?_, ?_, ?_⟩; exact rfl; exact rfl; exact rfl) : P := h
theorem xlS {P : Prop} (h : P := by refine ⟨?_, ?_, ?_, ?_, ?_, ?_, ?_⟩; exact rfl; exact rfl; (conv => lhs; whnf); exact rfl; (first | assumption | (with_reducible exact Hid.out (by assumption))); exact rfl; exact rfl) : P := h
theorem xpS {P : Prop} (h : P := by refine ⟨?_, ?_, ?_, ?_, ?_, ?_, ?_, ?_, ?_, ?_⟩; exact rfl; exact rfl; exact rfl; exact xset; exact xfit; exact xsz; exact rfl; exact rfl; (show (_ : Nat) < 33; decide); exact rfl) : P := h
abbrev Tx := List UInt8
def sg (l : List Tx) (i : Nat) : Tx := l.getD i []
def Zbb (n : Nat) : Tx := if n < 10 then [UInt8.ofNat (48 + n)] else if n < 100 then [UInt8.ofNat (48 + n / 10), UInt8.ofNat (48 + n % 10)] else [UInt8.ofNat (48 + n / 100), UInt8.ofNat (48 + n / 10 % 10), UInt8.ofNat (48 + n % 10)]
def pIX : Tx := [73, 88]
def pIY : Tx := [73, 89]
def Yg (mark : UInt8) : Tx → Tx → List Tx
 | part, [] => [part]
 | part, c :: s => if c = mark then part :: Yg mark [] s else Yg mark (part ++ [c]) s
def Zl (s : Tx) (mark : UInt8) : List Tx := Yg mark [] s
def x_first : Tx := [78, 79, 80, 124, 76, 68, 32, 66, 67, 44, 110, 110, 124, 76, 68, 32, 40, 66, 67, 41, 44, 65, 124, 73, 78, 67, 32, 66, 67, 124, 73, 78, 67, 32, 66, 124, 68, 69, 67, 32, 66, 124, 76, 68, 32, 66, 44, 110, 124, 82, 76, 67, 65, 124, 69, 88, 32, 65, 70, 44, 65, 70, 39, 124, 65, 68, 68, 32, 72, 76, 44, 66, 67, 124, 76, 68, 32, 65, 44, 40, 66, 67, 41, 124, 68, 69, 67, 32, 66, 67, 124, 73, 78, 67, 32, 67, 124, 68, 69, 67, 32, 67, 124, 76, 68, 32, 67, 44, 110, 124, 82, 82, 67, 65, 124, 68, 74, 78, 90, 32, 101, 124, 76, 68, 32, 68, 69, 44, 110, 110, 124, 76, 68, 32, 40, 68, 69, 41, 44, 65, 124, 73, 78, 67, 32, 68, 69, 124, 73, 78, 67, 32, 68, 124, 68, 69, 67, 32, 68, 124, 76, 68, 32, 68, 44, 110, 124, 82, 76, 65, 124, 74, 82, 32, 101, 124, 65, 68, 68, 32, 72, 76, 44, 68, 69, 124, 76, 68, 32, 65, 44, 40, 68, 69, 41, 124, 68, 69, 67, 32, 68, 69, 124, 73, 78, 67, 32, 69, 124, 68, 69, 67, 32, 69, 124, 76, 68, 32, 69, 44, 110, 124, 82, 82, 65, 124, 74, 82, 32, 78, 90, 44, 101, 124, 76, 68, 32, 72, 76, 44, 110, 110, 124, 76, 68, 32, 40, 110, 110, 41, 44, 72, 76, 124, 73, 78, 67, 32, 72, 76, 124, 73, 78, 67, 32, 72, 124, 68, 69, 67, 32, 72, 124, 76, 68, 32, 72, 44, 110, 124, 68, 65, 65, 124, 74, 82, 32, 90, 44, 101, 124, 65, 68, 68, 32, 72, 76, 44, 72, 76, 124, 76, 68, 32, 72, 76, 44, 40, 110, 110, 41, 124, 68, 69, 67, 32, 72, 76, 124, 73, 78, 67, 32, 76, 124, 68, 69, 67, 32, 76, 124, 76, 68, 32, 76, 44, 110, 124, 67, 80, 76, 124, 74, 82, 32, 78, 67, 44, 101, 124, 76, 68, 32, 83, 80, 44, 110, 110, 124, 76, 68, 32, 40, 110, 110, 41, 44, 65, 124, 73, 78, 67, 32, 83, 80, 124, 73, 78, 67, 32, 40, 72, 76, 41, 124, 68, 69, 67, 32, 40, 72, 76, 41, 124, 76, 68, 32, 40, 72, 76, 41, 44, 110, 124, 83, 67, 70, 124, 74, 82, 32, 67, 44, 101, 124, 65, 68, 68, 32, 72, 76, 44, 83, 80, 124, 76, 68, 32, 65, 44, 40, 110, 110, 41, 124, 68, 69, 67, 32, 83, 80, 124, 73, 78, 67, 32, 65, 124, 68, 69, 67, 32, 65, 124, 76, 68, 32, 65, 44, 110, 124, 67, 67, 70]
def x_last : Tx := [82, 69, 84, 32, 78, 90, 124, 80, 79, 80, 32, 66, 67, 124, 74, 80, 32, 78, 90, 44, 110, 110, 124, 74, 80, 32, 110, 110, 124, 67, 65, 76, 76, 32, 78, 90, 44, 110, 110, 124, 80, 85, 83, 72, 32, 66, 67, 124, 65, 68, 68, 32, 65, 44, 110, 124, 82, 83, 84, 32, 48, 124, 82, 69, 84, 32, 90, 124, 82, 69, 84, 124, 74, 80, 32, 90, 44, 110, 110, 124, 67, 66, 124, 67, 65, 76, 76, 32, 90, 44, 110, 110, 124, 67, 65, 76, 76, 32, 110, 110, 124, 65, 68, 67, 32, 65, 44, 110, 124, 82, 83, 84, 32, 56, 124, 82, 69, 84, 32, 78, 67, 124, 80, 79, 80, 32, 68, 69, 124, 74, 80, 32, 78, 67, 44, 110, 110, 124, 79, 85, 84, 32, 40, 110, 41, 44, 65, 124, 67, 65, 76, 76, 32, 78, 67, 44, 110, 110, 124, 80, 85, 83, 72, 32, 68, 69, 124, 83, 85, 66, 32, 110, 124, 82, 83, 84, 32, 49, 54, 124, 82, 69, 84, 32, 67, 124, 69, 88, 88, 124, 74, 80, 32, 67, 44, 110, 110, 124, 73, 78, 32, 65, 44, 40, 110, 41, 124, 67, 65, 76, 76, 32, 67, 44, 110, 110, 124, 68, 68, 124, 83, 66, 67, 32, 65, 44, 110, 124, 82, 83, 84, 32, 50, 52, 124, 82, 69, 84, 32, 80, 79, 124, 80, 79, 80, 32, 72, 76, 124, 74, 80, 32, 80, 79, 44, 110, 110, 124, 69, 88, 32, 40, 83, 80, 41, 44, 72, 76, 124, 67, 65, 76, 76, 32, 80, 79, 44, 110, 110, 124, 80, 85, 83, 72, 32, 72, 76, 124, 65, 78, 68, 32, 110, 124, 82, 83, 84, 32, 51, 50, 124, 82, 69, 84, 32, 80, 69, 124, 74, 80, 32, 40, 72, 76, 41, 124, 74, 80, 32, 80, 69, 44, 110, 110, 124, 69, 88, 32, 68, 69, 44, 72, 76, 124, 67, 65, 76, 76, 32, 80, 69, 44, 110, 110, 124, 69, 68, 124, 88, 79, 82, 32, 110, 124, 82, 83, 84, 32, 52, 48, 124, 82, 69, 84, 32, 80, 124, 80, 79, 80, 32, 65, 70, 124, 74, 80, 32, 80, 44, 110, 110, 124, 68, 73, 124, 67, 65, 76, 76, 32, 80, 44, 110, 110, 124, 80, 85, 83, 72, 32, 65, 70, 124, 79, 82, 32, 110, 124, 82, 83, 84, 32, 52, 56, 124, 82, 69, 84, 32, 77, 124, 76, 68, 32, 83, 80, 44, 72, 76, 124, 74, 80, 32, 77, 44, 110, 110, 124, 69, 73, 124, 67, 65, 76, 76, 32, 77, 44, 110, 110, 124, 70, 68, 124, 67, 80, 32, 110, 124, 82, 83, 84, 32, 53, 54]
def x_extended : Tx := [73, 78, 32, 66, 44, 40, 67, 41, 124, 79, 85, 84, 32, 40, 67, 41, 44, 66, 124, 83, 66, 67, 32, 72, 76, 44, 66, 67, 124, 76, 68, 32, 40, 110, 110, 41, 44, 66, 67, 124, 78, 69, 71, 124, 82, 69, 84, 78, 124, 73, 77, 32, 48, 124, 76, 68, 32, 73, 44, 65, 124, 73, 78, 32, 67, 44, 40, 67, 41, 124, 79, 85, 84, 32, 40, 67, 41, 44, 67, 124, 65, 68, 67, 32, 72, 76, 44, 66, 67, 124, 76, 68, 32, 66, 67, 44, 40, 110, 110, 41, 124, 78, 69, 71, 124, 82, 69, 84, 73, 124, 73, 77, 32, 48, 124, 76, 68, 32, 82, 44, 65, 124, 73, 78, 32, 68, 44, 40, 67, 41, 124, 79, 85, 84, 32, 40, 67, 41, 44, 68, 124, 83, 66, 67, 32, 72, 76, 44, 68, 69, 124, 76, 68, 32, 40, 110, 110, 41, 44, 68, 69, 124, 78, 69, 71, 124, 82, 69, 84, 78, 124, 73, 77, 32, 49, 124, 76, 68, 32, 65, 44, 73, 124, 73, 78, 32, 69, 44, 40, 67, 41, 124, 79, 85, 84, 32, 40, 67, 41, 44, 69, 124, 65, 68, 67, 32, 72, 76, 44, 68, 69, 124, 76, 68, 32, 68, 69, 44, 40, 110, 110, 41, 124, 78, 69, 71, 124, 82, 69, 84, 78, 124, 73, 77, 32, 50, 124, 76, 68, 32, 65, 44, 82, 124, 73, 78, 32, 72, 44, 40, 67, 41, 124, 79, 85, 84, 32, 40, 67, 41, 44, 72, 124, 83, 66, 67, 32, 72, 76, 44, 72, 76, 124, 76, 68, 32, 40, 110, 110, 41, 44, 72, 76, 124, 78, 69, 71, 124, 82, 69, 84, 78, 124, 73, 77, 32, 48, 124, 82, 82, 68, 124, 73, 78, 32, 76, 44, 40, 67, 41, 124, 79, 85, 84, 32, 40, 67, 41, 44, 76, 124, 65, 68, 67, 32, 72, 76, 44, 72, 76, 124, 76, 68, 32, 72, 76, 44, 40, 110, 110, 41, 124, 78, 69, 71, 124, 82, 69, 84, 78, 124, 73, 77, 32, 48, 124, 82, 76, 68, 124, 73, 78, 32, 40, 67, 41, 124, 79, 85, 84, 32, 40, 67, 41, 44, 48, 124, 83, 66, 67, 32, 72, 76, 44, 83, 80, 124, 76, 68, 32, 40, 110, 110, 41, 44, 83, 80, 124, 78, 69, 71, 124, 82, 69, 84, 78, 124, 73, 77, 32, 49, 124, 78, 79, 80, 124, 73, 78, 32, 65, 44, 40, 67, 41, 124, 79, 85, 84, 32, 40, 67, 41, 44, 65, 124, 65, 68, 67, 32, 72, 76, 44, 83, 80, 124, 76, 68, 32, 83, 80, 44, 40, 110, 110, 41, 124, 78, 69, 71, 124, 82, 69, 84, 78, 124, 73, 77, 32, 50, 124, 78, 79, 80]
def x_ones : Tx := [66, 124, 67, 124, 68, 124, 69, 124, 72, 124, 76, 124, 40, 72, 76, 41, 124, 65]
def rOnes : List Tx := Zl x_ones 124
def Yh (n : Nat) : Tx :=
 if n < 64 then sg (Zl x_first 124) n
 else if n = 118 then [72, 65, 76, 84]
 else if n < 128 then [76, 68, 32] ++ sg rOnes (n / 8 % 8) ++ [44] ++ sg rOnes (n % 8)
 else if n < 192 then sg (Zl [65, 68, 68, 32, 65, 44, 124, 65, 68, 67, 32, 65, 44, 124, 83, 85, 66, 32, 124, 83, 66, 67, 32, 65, 44, 124, 65, 78, 68, 32, 124, 88, 79, 82, 32, 124, 79, 82, 32, 124, 67, 80, 32] 124) (n / 8 % 8) ++ sg rOnes (n % 8)
 else sg (Zl x_last 124) (n - 192)
def ZM (n : Nat) (thing : Tx) : Tx :=
 if n < 64 then sg (Zl [82, 76, 67, 124, 82, 82, 67, 124, 82, 76, 124, 82, 82, 124, 83, 76, 65, 124, 83, 82, 65, 124, 83, 76, 76, 124, 83, 82, 76] 124) (n / 8) ++ [32] ++ thing
 else sg (Zl [124, 66, 73, 84, 32, 124, 82, 69, 83, 32, 124, 83, 69, 84, 32] 124) (n / 64) ++ [UInt8.ofNat (48 + n / 8 % 8)] ++ [44] ++ thing
def Yt (n : Nat) : Tx :=
 if 64 ≤ n ∧ n < 128 then sg (Zl x_extended 124) (n - 64)
 else if 160 ≤ n ∧ n < 192 ∧ n % 8 < 4 then sg (Zl [76, 68, 73, 124, 67, 80, 73, 124, 73, 78, 73, 124, 79, 85, 84, 73, 124, 76, 68, 68, 124, 67, 80, 68, 124, 73, 78, 68, 124, 79, 85, 84, 68, 124, 76, 68, 73, 82, 124, 67, 80, 73, 82, 124, 73, 78, 73, 82, 124, 79, 84, 73, 82, 124, 76, 68, 68, 82, 124, 67, 80, 68, 82, 124, 73, 78, 68, 82, 124, 79, 84, 68, 82] 124) ((n - 160) / 8 * 4 + n % 8)
 else [78, 79, 80]
def rRepl : Nat → Tx → Tx → Tx → Tx
 | 0, _, _, _ => []
 | _ + 1, [], _, _ => []
 | f + 1, c :: s, old, by' => if old.isPrefixOf (c :: s) then by' ++ rRepl f ((c :: s).drop old.length) old by' else c :: rRepl f s old by'
def Zv (s old by' : Tx) : Tx := rRepl s.length s old by'
def Jh (s part : Tx) : Bool := !(Zv s part [] == s)
def ZaE (index : Tx) (x : Tx) : Tx := if x = [72] ∨ x = [76] then index ++ x else x
def YG (index : Tx) : Nat → Tx → List Tx → Tx
 | _, out, [] => out
 | i, out, x :: r => YG index (i + 1) ((if 0 < i then out ++ [44] else out) ++ ZaE index x) r
def JB (n : Nat) (index : Tx) : Tx :=
 let s := Yh n
 if s = [69, 88, 32, 68, 69, 44, 72, 76] then s
 else if s = [74, 80, 32, 40, 72, 76, 41] then [74, 80, 32, 40] ++ index ++ [41]
 else if Jh s [40, 72, 76, 41] then Zv s [40, 72, 76, 41] ([40] ++ index ++ [43, 100, 41])
 else if Jh s [72, 76] then Zv s [72, 76] index
 else if (Zl s 32).length < 2 then s
 else YG index 0 (sg (Zl s 32) 0 ++ [32]) (Zl (sg (Zl s 32) 1) 44)
def Zn (page : Int) (n : Nat) : Tx :=
 if page = 0 then Yh n
 else if page = 1 then ZM n (sg rOnes (n % 8))
 else if page = 2 then Yt n
 else if page = 3 then JB n pIX
 else if page = 4 then JB n pIY
 else if page = 5 ∨ page = 6 then
  (if n / 64 ≠ 1 ∧ n % 8 ≠ 6 then ZM n ([40] ++ sg [pIX, pIY] (page - 5).toNat ++ [43, 100, 41]) ++ [44] ++ sg rOnes (n % 8)
   else ZM n ([40] ++ sg [pIX, pIY] (page - 5).toNat ++ [43, 100, 41]))
 else []
theorem KG (a b : Tx) : (⟨a.toArray⟩ : ByteArray) ++ ⟨b.toArray⟩ = ⟨(a ++ b).toArray⟩ := by
 apply ByteArray.ext
 simp
def Y0 (t : TypeId) (R : List (Nat × TypeId × List Value)) (v : Value) (xs : List Value) : Prop :=
 (R = [] ∧ v = .slice none 0 0 ∧ xs = []) ∨
 ∃ g cap cur, R = [(g, t, cur)] ∧ v = .slice (some ⟨g, 0, none⟩) xs.length cap ∧ xs.length ≤ cap ∧ cap ≤ maxLen ∧ cur.length = cap ∧ cur.take xs.length = xs
section
variable {W0 w w' : World} {l L R R' : List (Nat × TypeId × List Value)} {t : TypeId} {v v' : Value} {xs ys : List Value}
theorem Y0.nil (t : TypeId) : Y0 t [] (.slice none 0 0) [] := .inl ⟨rfl, rfl, rfl⟩
theorem Y0.owns (h : Y0 t R v xs) {B : Nat} (hR : ∀ e ∈ R, B ≤ e.1 ∧ ZL w e.1 e.2.1 e.2.2) : w.ownsRow B t 1 v xs.length xs := by
 refine ⟨by simp, ?_⟩
 rcases h with ⟨-, rfl, rfl⟩ | ⟨g, cap, cur, rfl, rfl, h1, h2, h3, h4⟩
 ·exact .inl ⟨rfl, rfl⟩
 ·obtain ⟨hb, hw⟩ := hR (g, t, cur) (by simp)
  exact .inr ⟨g, cap, cur.toArray, rfl, hb, hw, h1, h2, by simp [h3], by simpa using h4⟩
theorem Own.add (h : Own W0 w l) (hb : Below w.heap.size w w') (hR : Y0 t R v xs) (hW : ∀ e ∈ R, w.heap.size ≤ e.1 ∧ ZL w' e.1 e.2.1 e.2.2) : Own W0 w' (l ++ R) := by
 have h' := h.call hb
 refine ⟨h'.below, ?_, ?_⟩
 ·intro e he
  rcases List.mem_append.1 he with he | he
  ·exact h'.whole e he
  ·exact ⟨Nat.le_trans h.below.size (hW e he).1, (hW e he).2⟩
 ·rw [List.pairwise_append]
  refine ⟨h.apart, ?_, ?_⟩
  ·rcases hR with ⟨rfl, -⟩ | ⟨g, cap, cur, rfl, -⟩
   ·exact .nil
   ·exact List.pairwise_singleton _ _
  ·intro a ha b hb'
   have := (h.whole a ha).2.inside
   have := (hW b hb').1
   omega
theorem Own.append {E : List (Nat × TypeId × List Value)} (h : Own W0 w (E ++ (L ++ R))) (hL : ∀ e ∈ L, e.2.1 ≠ t) (hR : Y0 t R v xs) (hg : w.grownBy w' v.ownBlock)
  (hR' : Y0 t R' v' ys) (hW : ∀ e ∈ R', W0.heap.size ≤ e.1 ∧ ZL w' e.1 e.2.1 e.2.2) : Own W0 w' (L ++ R') := by
 have hrow : ∀ k, v.ownBlock = some k → ∃ cur, (k, t, cur) ∈ R := by
  intro k hk
  rcases hR with ⟨-, rfl, -⟩ | ⟨g, cap, cur, rfl, rfl, -⟩
  ·cases hk
  ·cases hk; exact ⟨cur, by simp⟩
 have hlo : ∀ k, v.ownBlock = some k → W0.heap.size ≤ k := by
  intro k hk
  obtain ⟨cur, hm⟩ := hrow k hk
  exact (h.whole (k, t, cur) (by simp [hm])).1
 have hap := (List.pairwise_append.1 (List.pairwise_append.1 h.apart).2.1)
 have hLw : ∀ e ∈ L, W0.heap.size ≤ e.1 ∧ ZL w' e.1 e.2.1 e.2.2 := by
  intro e he
  have hx := h.whole e (by simp [he])
  refine ⟨hx.1, hx.2.grown hg ?_⟩
  intro hk
  obtain ⟨cur, hm⟩ := hrow e.1 hk.symm
  exact hap.2.2 e he (e.1, t, cur) hm rfl
 refine ⟨h.below.trans ((Below.refl _ w).grown hg h.below.size hlo), ?_, ?_⟩
 ·intro e he
  rcases List.mem_append.1 he with he | he
  ·exact hLw e he
  ·exact hW e he
 ·rw [List.pairwise_append]
  refine ⟨hap.1, ?_, ?_⟩
  ·rcases hR' with ⟨rfl, -⟩ | ⟨g, cap, cur, rfl, -⟩
   ·exact .nil
   ·exact List.pairwise_singleton _ _
  ·intro a ha b hb
   have hb' := (hW b hb).2
   have ha' := (hLw a ha).2
   have ht : b.2.1 = t := by
    rcases hR' with ⟨rfl, -⟩ | ⟨g, cap, cur, rfl, -⟩
    ·cases hb
    ·obtain rfl := List.mem_singleton.1 hb; rfl
   exact ha'.apart hb' (by rw [ht]; exact hL a ha)
theorem Own.row (h : Own W0 w (l ++ R)) : ∀ e ∈ R, W0.heap.size ≤ e.1 ∧ ZL w e.1 e.2.1 e.2.2 := fun e he => h.whole e (by simp [he])
end
end
end Go.Proofs.YtgdeeiimkhjfiaaGreatDoor
set_option linter.unusedSimpArgs false
set_option linter.unusedVariables false
namespace Go.Proofs.YtgdeeiimkhjfiaaGreatDoor
open Go.RowKit
section
variable {W0 w : World} {x b tq n c : Nat} {s : Cs} {ix : Bool} {pg : Int} {l : Zj}
def Rd (w : World) (v : Value) (ys : List Value) : Prop :=
 (v = .slice none 0 0 ∧ ys = []) ∨ (∃ ad cap, v = .slice (some ad) 0 cap ∧ ys = []) ∨ ∃ g o cap, v = .slice (some ⟨g, o, none⟩) ys.length cap ∧ g < w.heap.size ∧ ∀ j u, ys[j]? = some u → w.cell? ⟨g, o + j, none⟩ = some u
section
variable {P : Program} {W0 w w' : World} {l R : List (Nat × TypeId × List Value)} {t : TypeId} {v u : Value} {xs ys : List Value}
theorem Rd.under (h : Rd w v ys) (hb : Below w.heap.size w w') : Rd w' v ys := by
 rcases h with h | h | ⟨g, o, cap, hv, hg, hc⟩
 ·exact .inl h
 ·exact .inr (.inl h)
 ·exact .inr (.inr ⟨g, o, cap, hv, Nat.lt_of_lt_of_le hg hb.size, fun j u hu => (hb.cell (p := ⟨g, o + j, none⟩) hg).trans (hc j u hu)⟩)
theorem Rd.own (h : Hid (Rd W0 v ys)) (HM : Hid (Own W0 w l)) : Rd w v ys := h.out.under HM.out.below
theorem Rd.ofWhole {g n : Nat} {cs : List Value} (h : ZL w g t cs) (hn : n = cs.length) : Rd w (.slice (some ⟨g, 0, none⟩) n n) cs := by
 subst hn
 exact .inr (.inr ⟨g, 0, cs.length, rfl, h.inside, fun j u hu => by rw [Nat.zero_add, h.at_ j, hu]⟩)
theorem Y0.made {g : Nat} : Y0 t [(g, t, [])] (.slice (some ⟨g, 0, none⟩) 0 0) [] := .inr ⟨g, 0, [], rfl, rfl, Nat.le_refl _, by unfold maxLen; omega, rfl, rfl⟩
theorem VU {B n : Nat} (h : w.ownsRow B t 1 v n xs) : ∃ R, Y0 t R v xs ∧ ∀ e ∈ R, B ≤ e.1 ∧ ZL w e.1 e.2.1 e.2.2 := by
 have h' := h
 obtain ⟨hl, ⟨hv, h0⟩ | ⟨g, cap, cur, hv, hb, hw, h1, h2, h3, h4⟩⟩ := h
 ·subst h0
  have hx : xs = [] := by simpa using hl
  subst hx hv
  exact ⟨[], .nil t, by simp⟩
 ·have hl' : xs.length = n := by simpa using hl
  subst hl'
  refine ⟨[(g, t, cur.toList)], .inr ⟨g, cap, cur.toList, rfl, hv, h1, h2, by simpa using h3, by simpa using h4⟩, ?_⟩
  intro e he
  obtain rfl := List.mem_singleton.1 he
  exact ⟨hb, hw⟩
theorem Own.sub (h : Own W0 w l) (hs : R.Sublist l) : Own W0 w R := ⟨h.below, fun e he => h.whole e (hs.subset he), h.apart.sublist hs⟩
theorem k49 {P : Prop} (h : P := by
 obtain ⟨R', hR', hW⟩ := VU ho'
 refine hK _ _ (h v' w' R' (Zb hR') (Zb ?_))
 have := hO.append (t := tE) (by simp) HR.out hg' hR' hW
 simpa using this) : P := h
theorem jA {ops : Array Oper} {rest : List Oper} {o : Oper} {a : Act} {Q : Exit → Act → World → Prop} {s y : Operand} {tS tE : TypeId} {i : TypeInfo} {z : Value} {bytes : Nat}
  (ht : P.underlying tS = some (.slice tE)) (hi : P.info? tE = some i) (hz : i.zero = some z) (hsz : i.size = 1) (hby : i.bytes = bytes) (hzs : z.cells.size = 1) (hbb : bytes ≤ 64)
  (HM : Hid (Own W0 w l)) (HR : Hid (Y0 tE R v xs)) (hsub : R.Sublist l) (ho : o.op = .call { callee := .builtin .append, args := #[s, y], argTypes := #[tS, tS] }) (hs : a.eval s = v) (hy : a.eval y = u) (hu : Rd w u ys)
  (h1 : ∀ u ∈ ys, u.oneCell' = true) (hl : xs.length + ys.length ≤ 100000) (hw : Region.wanted o (yielded ops a.tmps) = true)
  (h : ∀ v' w' R', Hid (Y0 tE R' v' (xs ++ ys)) → Hid (Own W0 w' R') → wpList P ops Q rest (a.put o.dst v') w') : wpList P ops Q (o :: rest) a w := by
 have hO : Own W0 w ([] ++ ([] ++ R)) := HM.out.sub hsub
 have hrow := HR.out.owns (w := w) (B := W0.heap.size) (fun e he => hO.whole e (by simpa using he))
 refine Zp hw fun K hK => ?_
 rcases hu with ⟨hv, hys⟩ | ⟨ad, cap, hv, hys⟩ | ⟨g, off, cap, hv, hg, hc⟩
 ·subst hys
  rw [hv] at hy
  have hrun := run_append_owned_none (P := P) (w := w) W0.heap.size tS o.type tE i 1 ht hi v _ _ hrow
  have hk := hK _ _ (h v w R (by rw [List.append_nil]; exact HR) (Zb (by simpa using hO)))
  unfold Oper.wp
  simp only [execOp, ho, resolve, invoke, builtin, hs, hy, hrun, Result.andThen, Sem.run_bind, Sem.run_pure, List.map_toArray, List.map_cons, List.map_nil]
  exact hk
 ·subst hys
  rw [hv] at hy
  refine wp_append_own w s y tS ho W0.heap.size tE i z 1 bytes ht hi hz hsz hby hzs (by decide) v _ _ hs hrow ad 0 cap [] hy rfl (fun j x hj => by simp at hj) h1 (by unfold maxLen; simp only [List.length_nil] at hl; omega) ?_ HM.out.below.size ?_
  ·have : (xs.length + 0) * bytes ≤ 100000 * 64 := Nat.mul_le_mul hl hbb
   omega
  ·intro v' w' ho' hg' _
   exact k49
 ·rw [hv] at hy
  refine wp_append_own w s y tS ho W0.heap.size tE i z 1 bytes ht hi hz hsz hby hzs (by decide) v _ _ hs hrow ⟨g, off, none⟩ ys.length cap ys hy (by simp) ?_ h1 (by unfold maxLen; omega) ?_ HM.out.below.size ?_
  ·intro j x hj
   have ha : (⟨g, off, none⟩ : Addr).add j = ⟨g, off + j, none⟩ := by unfold Addr.add; split <;> simp_all
   rw [ha]
   exact hc j x hj
  ·have : (xs.length + ys.length) * bytes ≤ 100000 * 64 := Nat.mul_le_mul hl hbb
   omega
  ·intro v' w' ho' hg' _
   exact k49
end
def by8 (bs : List Nat) : List Value := bs.map fun b : Nat => Value.int .u8 (b : Int)
@[simp] theorem by8_length (bs : List Nat) : (by8 bs).length = bs.length := by simp [by8]
end
end Go.Proofs.YtgdeeiimkhjfiaaGreatDoor
set_option linter.unusedSimpArgs false
set_option linter.unusedVariables false
namespace Go.Proofs.YtgdeeiimkhjfiaaGreatDoor
section
variable {W0 w : World} {x b tq n c : Nat} {s : Cs} {ix : Bool} {pg : Int} {l : Zj}
def hexT : Tx := [48, 49, 50, 51, 52, 53, 54, 55, 56, 57, 65, 66, 67, 68, 69, 70]
def hexd (n : Nat) : UInt8 := hexT.getD n 0
def hex2 (v : Nat) : Tx := [hexd (v / 16), hexd (v % 16)]
def sgn (v : Nat) : Tx := if v < 128 then 43 :: Zbb v else 45 :: Zbb (256 - v)
def mark : Nat → Tx
 | 0 => [43, 100]
 | 1 => [110, 110]
 | 2 => [110]
 | _ => [101]
end
end Go.Proofs.YtgdeeiimkhjfiaaGreatDoor
set_option linter.unusedSimpArgs false
set_option linter.unusedVariables false
namespace Go.Proofs.YtgdeeiimkhjfiaaGreatDoor
section
variable {W0 w : World} {x b tq n c : Nat} {s : Cs} {ix : Bool} {pg : Int} {l : Zj}
theorem Zdd (old by' : Tx) (ho : old ≠ []) : ∀ (n : Nat) (l : Tx), l.length ≤ n → ∀ f g, l.length ≤ f → l.length ≤ g → rRepl f l old by' = rRepl g l old by' := by
 intro n
 induction n with
 | zero =>
  intro l hl f g _ _
  have : l = [] := List.length_eq_zero_iff.1 (by omega)
  subst this
  cases f <;> cases g <;> rfl
 | succ n ih =>
  intro l hl f g hf hg
  cases l with
  | nil => cases f <;> cases g <;> rfl
  | cons c s =>
   simp only [List.length_cons] at hl hf hg
   obtain ⟨f', rfl⟩ : ∃ f', f = f' + 1 := ⟨f - 1, by omega⟩
   obtain ⟨g', rfl⟩ : ∃ g', g = g' + 1 := ⟨g - 1, by omega⟩
   have h1 : 0 < old.length := List.length_pos_iff.2 ho
   have h2 : ((c :: s).drop old.length).length ≤ s.length := by simp only [List.length_drop, List.length_cons]; omega
   show (if old.isPrefixOf (c :: s) then _ else _) = (if old.isPrefixOf (c :: s) then _ else _)
   rw [ih s (by omega) f' g' (by omega) (by omega), ih _ (by omega) f' g' (by omega) (by omega)]
theorem Zfd (old by' : Tx) : Zv [] old by' = [] := rfl
theorem Zfe (s old by' : Tx) (ho : old ≠ []) (h : old.isPrefixOf s = true) (hs : s ≠ []) : Zv s old by' = by' ++ Zv (s.drop old.length) old by' := by
 cases s with
 | nil => exact absurd rfl hs
 | cons c t =>
  have h1 : 0 < old.length := List.length_pos_iff.2 ho
  have h2 : ((c :: t).drop old.length).length ≤ t.length := by simp only [List.length_drop, List.length_cons]; omega
  show (if old.isPrefixOf (c :: t) then by' ++ rRepl t.length ((c :: t).drop old.length) old by' else _) = _
  rw [if_pos h, Zv, Zdd old by' ho _ _ (Nat.le_refl _) t.length _ h2 (Nat.le_refl _)]
theorem zc (c : UInt8) (t old by' : Tx) (h : old.isPrefixOf (c :: t) = false) : Zv (c :: t) old by' = c :: Zv t old by' := by
 show (if old.isPrefixOf (c :: t) then _ else c :: rRepl t.length t old by') = _
 rw [if_neg (by rw [h]; decide)]
 rfl
theorem jB (old l : Tx) : (l.take old.length = old) ↔ old.isPrefixOf l = true := by
 rw [List.isPrefixOf_iff_prefix, List.prefix_iff_eq_take]
 exact eq_comm
theorem zd (old l : Tx) (h : l.length < old.length) : old.isPrefixOf l = false := by
 cases hp : old.isPrefixOf l with
 | false => rfl
 | true =>
  have := (List.isPrefixOf_iff_prefix.1 hp).length_le
  omega
theorem jC (s : Tx) (k : Nat) (hk : k < s.length) : s.drop k = s.getD k 0 :: s.drop (k + 1) := by
 rw [List.drop_eq_getElem_cons hk, List.getD_eq_getElem?_getD, List.getElem?_eq_getElem hk]
 rfl
theorem yO (s : Tx) (k : Nat) (hk : k < s.length) : (s.drop k).take (k + 1 - k) = [s.getD k 0] := by
 rw [jC s k hk, show k + 1 - k = 1 by omega]
 rfl
section
variable {P : Program} {W0 w : World} {l : List (Nat × TypeId × List Value)} {ops : Array Oper} {rest : List Oper} {o : Oper} {a : Act}
theorem ZQ {Q : Exit → Act → World → Prop} {ty t2 : TypeId} {x y : Operand} {p q : List UInt8} (ho : o.op = .binOp .add ty x y t2) (hx : a.eval x = .string ⟨p.toArray⟩) (hy : a.eval y = .string ⟨q.toArray⟩)
  (hl : p.length + q.length ≤ 8388608) (hw : Region.wanted o (yielded ops a.tmps) = true) (h : wpList P ops Q rest (a.put o.dst (.string ⟨(p ++ q).toArray⟩)) w) : wpList P ops Q (o :: rest) a w := by
 refine Zp hw fun K hK => ?_
 unfold Oper.wp execOp
 simp only [ho, hx, hy, Sem.run_bind]
 have h1 := run_string_add_lists (P := P) w p q (by omega) (by omega)
 simp only [eqGuard_add, binOp_string_add, Sem.run_pure, Result.andThen_ok, h1]
 exact hK _ _ h
end
end
end Go.Proofs.YtgdeeiimkhjfiaaGreatDoor
