import Derived.Test.YtgdeeiimkhjfiaaGreatDoorV1
set_option maxRecDepth 100000
set_option maxHeartbeats 6400000
namespace Go.Proofs.YtgdeeiimkhjfiaaGreatDoor
open Go.RowKit
section
variable {W0 w : World} {x b tq n c : Nat} {s : Cs} {ix : Bool} {pg : Int} {l : Zj}
theorem oneWorld : One Tryz.prog 50 := ⟨⟨_, Tryz.underlying50, rfl⟩, by kernel_rfl⟩
namespace Cs
abbrev setC (s : Cs) (v : Nat) : Cs := { s with r := { s.r with c := v } }
abbrev setIX (s : Cs) (v : Nat) : Cs := { s with r := { s.r with ix := v } }
abbrev setIY (s : Cs) (v : Nat) : Cs := { s with r := { s.r with iy := v } }
def cells (s : Cs) (b : Nat) : List Value := s.r.cells ++ [.iface 29 (.pointer (some ⟨b, 0, none⟩)), .int .u8 (s.px : Int)]
theorem cells_length (s : Cs) (b : Nat) : (s.cells b).length = 31 := rfl
theorem drop0 (s : Cs) (b : Nat) : Drop (s.cells b) 0 (s.cells b) := .z
theorem take29 (s : Cs) (b : Nat) : Take (s.cells b) 29 s.r.cells := by unfold Cs.cells Rg.cells; repeat' first | exact .z | apply Take.s
theorem over29 (s : Cs) (b : Nat) (r : Rg) : Over (s.cells b) 0 r.cells ((s.setR r).cells b) := by unfold Cs.cells Rg.cells Cs.setR; repeat' first | exact .z | apply Over.p
structure Fits (s : Cs) : Prop where
 r : s.r.Fits
 px : s.px < 256
 m : ∀ i, s.u.m i < 256
end Cs
structure Co (W0 w : World) (c b : Nat) (s : Cs) (l : Zj) (n : Nat) : Prop where
 fits : s.Fits
 bx : Bx W0 w b s.u ((c, 52, s.cells b) :: l) n
section
variable {P : Program} {W0 w w' : World} {b c n k : Nat} {s s' : Cs} {l l' L : Zj}
theorem Co.less (h : Co W0 w c b s l n) (hk : k ≤ n) : Co W0 w c b s l k := ⟨h.fits, h.bx.less hk⟩
theorem Co.out (h : Co W0 w c b s l n) : s.Fits ∧ s.u.Good n ∧ ∃ X, JV X b s.u ∧ Own W0 w ((c, 52, s.cells b) :: (l ++ X)) := ⟨h.fits, h.bx.good, h.bx.own⟩
theorem Co.back {X : Zj} (hf : s.Fits) (hg : s.u.Good n) (hX : JV X b s.u) (h : Own W0 w ((c, 52, s.cells b) :: (l ++ X))) : Co W0 w c b s l n := ⟨hf, hg, X, hX, h⟩
theorem Co.made {X : Zj} (h : Own W0 w ((c, 52, s.cells b) :: (l ++ X))) (hg : s.u.Good n) (hX : JV X b s.u) (hf : s.Fits) : Co W0 w c b s l n := ⟨hf, hg, X, hX, h⟩
theorem Co.call (h : Co W0 w c b s l n) (hb : Below w.heap.size w w') : Co W0 w' c b s l n := ⟨h.fits, h.bx.call hb⟩
theorem Co.drop {e : Nat × TypeId × List Value} (h : Co W0 w c b s (e :: l) n) : Co W0 w c b s l n := ⟨h.fits, (h.bx.perm (List.Perm.swap _ _ _)).drop⟩
theorem Co.perm (h : Co W0 w c b s l n) (hp : l.Perm l') : Co W0 w c b s l' n := ⟨h.fits, h.bx.perm (hp.cons _)⟩
theorem Co.m8 (h : Co W0 w c b s l n) (a : Nat) : s.m a < 256 := h.bx.good.m8 a
theorem Ye {ops : Array Oper} {rest : List Oper} {o : Oper} {a : Act} {Q : Exit → Act → World → Prop} {ty t : TypeId} {x y : Operand} {v : Value} {g i : Nat} {cs cs' : List Value} (HM : Hid (Own W0 w l)) (ho : o.op = .store ty x y) (hx : a.eval x = .pointer (some ⟨g, i, none⟩)) (hy : a.eval y = v)
  (hsel : Sel l g t cs) (hcs : cs.set i v = cs') (hs : Put l g t cs cs' l') (hty : j5 P ty 1) (h1 : v.oneCell' = true) (hw : Region.wanted o (yielded ops a.tmps) = true) (hi : i < cs.length)
  (hd : o.dst = none) (h : ∀ w', Hid (Own W0 w' l') → wpList P ops Q rest a w') : wpList P ops Q (o :: rest) a w := by
 subst hcs
 exact JK HM ho hx hy hsel hs hty h1 hw hi hd h
theorem V0 {ops : Array Oper} {rest : List Oper} {o : Oper} {a : Act} {Q : Exit → Act → World → Prop} {ty : TypeId} {x : Operand} {g off n : Nat} {cs r vs : List Value} (HM : Hid (Own W0 w l)) (ho : o.op = .load ty x) (hx : a.eval x = .pointer (some ⟨g, off, none⟩)) (hty : Agg P ty n)
  (hc : ∀ (j : Nat) (v : Value), cs[j]? = some v → W0.cell? ⟨g, j, none⟩ = some v) (hd : Drop cs off r) (ht : Take r n vs) (hw : Region.wanted o (yielded ops a.tmps) = true)
  (h : wpList P ops Q rest (a.put o.dst (.agg vs.toArray)) w) : wpList P ops Q (o :: rest) a w := by
 refine Zp hw fun K hK => ?_
 obtain ⟨⟨d, hu, hr⟩, hsz⟩ := hty
 refine wp_load_mid ty x ho g off hx vs d ?_ hu hr (by rw [ht.len]; exact hsz) (hK _ _ h)
 intro j v hv
 have e1 := hd.eq
 have e2 := ht.eq
 subst e1 e2
 rw [List.getElem?_take] at hv
 split at hv
 ·rw [List.getElem?_drop] at hv
  have hc' := hc _ _ hv
  exact (HM.out.below.cell (block_lt_of_cell hc')).trans hc'
 ·cases hv
theorem KL {a : Act} {K : Act → Prop} {dst : Option Tmp} {ty0 : TypeId} {pos : String} {aft : Array Edge} {gd : Option (Nat × Bool)} {ty : TypeId} {x : Operand} {g off n : Nat} {cs r vs : List Value} (hx : a.eval x = .pointer (some ⟨g, off, none⟩)) (hty : Agg P ty n)
  (hc : ∀ (j : Nat) (v : Value), cs[j]? = some v → W0.cell? ⟨g, j, none⟩ = some v) (hd : Drop cs off r) (ht : Take r n vs)
  (h : Oper.quiet P ⟨dst, .move (.const (.agg vs.toArray)), ty0, pos, aft, gd⟩ a (fun w' => Own W0 w' l) K) : Oper.quiet P ⟨dst, .load ty x, ty0, pos, aft, gd⟩ a (fun w' => Own W0 w' l) K := by
 obtain ⟨⟨d, hu, hr⟩, hsz⟩ := hty
 refine YK (fun w hC => ?_) h
 unfold execOp
 have hrun := run_loadVar_mid (P := P) w g off ty vs d (fun j v hv => ?_) hu hr (by rw [ht.len]; exact hsz)
 ·simp only [hx, Instr.loadAt, Instr.sureAddr, Sem.run_bind, Sem.run_pure, Result.andThen_ok, hrun]
 ·have e1 := hd.eq
  have e2 := ht.eq
  subst e1 e2
  rw [List.getElem?_take] at hv
  split at hv
  ·rw [List.getElem?_drop] at hv
   have hc' := hc _ _ hv
   exact (hC.below.cell (block_lt_of_cell hc')).trans hc'
  ·cases hv
theorem Own.cells_at {g : Nat} {t : TypeId} {cs : List Value} (h : Own W0 w l) (hs : Sel l g t cs) (j : Nat) (v : Value) (hv : cs[j]? = some v) : w.cell? ⟨g, j, none⟩ = some v := by rw [(h.at_ hs).at_]; exact hv
end
namespace Cs
variable {s : Cs} {v a : Nat} {q : Bool}
theorem setA_fits (h : s.Fits) (hv : v < 256) : (s.setA v).Fits := ⟨{ h.r with a := hv }, h.px, h.m⟩
theorem setF_fits (h : s.Fits) (hv : v < 256) : (s.setF v).Fits := ⟨{ h.r with f := hv }, h.px, h.m⟩
theorem setB_fits (h : s.Fits) (hv : v < 256) : (s.setB v).Fits := ⟨{ h.r with b := hv }, h.px, h.m⟩
theorem setC_fits (h : s.Fits) (hv : v < 256) : (s.setC v).Fits := ⟨{ h.r with c := hv }, h.px, h.m⟩
theorem setD_fits (h : s.Fits) (hv : v < 256) : (s.setD v).Fits := ⟨{ h.r with d := hv }, h.px, h.m⟩
theorem setE_fits (h : s.Fits) (hv : v < 256) : (s.setE v).Fits := ⟨{ h.r with e := hv }, h.px, h.m⟩
theorem setH_fits (h : s.Fits) (hv : v < 256) : (s.setH v).Fits := ⟨{ h.r with h := hv }, h.px, h.m⟩
theorem setL_fits (h : s.Fits) (hv : v < 256) : (s.setL v).Fits := ⟨{ h.r with l := hv }, h.px, h.m⟩
theorem setSP_fits (h : s.Fits) (hv : v < 65536) : (s.setSP v).Fits := ⟨{ h.r with sp := hv }, h.px, h.m⟩
theorem setPC_fits (h : s.Fits) (hv : v < 65536) : (s.setPC v).Fits := ⟨{ h.r with pc := hv }, h.px, h.m⟩
theorem setWZ_fits (h : s.Fits) (hv : v < 65536) : (s.setWZ v).Fits := ⟨{ h.r with wz := hv }, h.px, h.m⟩
theorem setI_fits (h : s.Fits) (hv : v < 256) : (s.setI v).Fits := ⟨{ h.r with i := hv }, h.px, h.m⟩
theorem setRR_fits (h : s.Fits) (hv : v < 256) : (s.setRR v).Fits := ⟨{ h.r with r := hv }, h.px, h.m⟩
theorem setIM_fits (h : s.Fits) (hv : v < 256) : (s.setIM v).Fits := ⟨{ h.r with im := hv }, h.px, h.m⟩
theorem setPX_fits (h : s.Fits) (hv : v < 256) : (s.setPX v).Fits := ⟨{ h.r with px := hv }, h.px, h.m⟩
theorem setQ1_fits (h : s.Fits) : (s.setQ1 q).Fits := ⟨{ h.r with }, h.px, h.m⟩
theorem setQ2_fits (h : s.Fits) : (s.setQ2 q).Fits := ⟨{ h.r with }, h.px, h.m⟩
theorem setHT_fits (h : s.Fits) : (s.setHT q).Fits := ⟨{ h.r with }, h.px, h.m⟩
theorem setDL_fits (h : s.Fits) : (s.setDL q).Fits := ⟨{ h.r with }, h.px, h.m⟩
theorem ahead_fits (h : s.Fits) (hv : v < 256) : (s.ahead v).Fits := ⟨h.r, hv, h.m⟩
theorem setR_fits {r : Rg} (h : s.Fits) (hr : r.Fits) : (s.setR r).Fits := ⟨hr, h.px, h.m⟩
theorem tick_fits (h : s.Fits) : s.tick.Fits := ⟨{ h.r with r := (by have := h.r.r; show s.r.r / 128 * 128 + (s.r.r % 128 + 1) % 128 < 256; omega) }, h.px, h.m⟩
theorem next_fits (h : s.Fits) : s.next.Fits := ⟨{ h.r with pc := Zy _ }, h.px, h.m⟩
theorem pair_lt (h : s.Fits) (n : Int) : s.pair n < 65536 := s.r.pair_lt h.r _
theorem one_lt (h : s.Fits) (n : Int) : s.one n < 256 := s.r.one_lt h.r _ _
theorem own_lt (h : s.Fits) (n : Int) : s.own n < 256 := s.r.one_lt h.r _ _
theorem numV_lt (h : s.Fits) (i : Nat) : s.numV i < 65536 := by have := h.m i; have := h.m (up1 i); unfold numV Cs.m; omega
end Cs
section
variable {P : Program} {W0 w w' : World} {b c n : Nat} {s s' : Cs} {l : Zj} {ops : Array Oper} {rest : List Oper} {o : Oper} {a : Act} {Q : Exit → Act → World → Prop} {ty t : TypeId} {x y : Operand} {v : Value}
theorem ftA {v : Nat} (h : s.Fits) (hv : v < 256) : (s.setA v).Fits := Cs.setA_fits h hv
theorem ftF {v : Nat} (h : s.Fits) (hv : v < 256) : (s.setF v).Fits := Cs.setF_fits h hv
theorem ftB {v : Nat} (h : s.Fits) (hv : v < 256) : (s.setB v).Fits := Cs.setB_fits h hv
theorem ftC {v : Nat} (h : s.Fits) (hv : v < 256) : (s.setC v).Fits := Cs.setC_fits h hv
theorem ftD {v : Nat} (h : s.Fits) (hv : v < 256) : (s.setD v).Fits := Cs.setD_fits h hv
theorem ftE {v : Nat} (h : s.Fits) (hv : v < 256) : (s.setE v).Fits := Cs.setE_fits h hv
theorem ftH {v : Nat} (h : s.Fits) (hv : v < 256) : (s.setH v).Fits := Cs.setH_fits h hv
theorem ftL {v : Nat} (h : s.Fits) (hv : v < 256) : (s.setL v).Fits := Cs.setL_fits h hv
theorem ftS {v : Nat} (h : s.Fits) (hv : v < 65536) : (s.setSP v).Fits := Cs.setSP_fits h hv
theorem ftP {v : Nat} (h : s.Fits) (hv : v < 65536) : (s.setPC v).Fits := Cs.setPC_fits h hv
theorem ftW {v : Nat} (h : s.Fits) (hv : v < 65536) : (s.setWZ v).Fits := Cs.setWZ_fits h hv
theorem ftI {v : Nat} (h : s.Fits) (hv : v < 256) : (s.setI v).Fits := Cs.setI_fits h hv
theorem ftR {v : Nat} (h : s.Fits) (hv : v < 256) : (s.setRR v).Fits := Cs.setRR_fits h hv
theorem ftM {v : Nat} (h : s.Fits) (hv : v < 256) : (s.setIM v).Fits := Cs.setIM_fits h hv
theorem ftX {v : Nat} (h : s.Fits) (hv : v < 256) : (s.setPX v).Fits := Cs.setPX_fits h hv
theorem ft1 {v : Bool} (h : s.Fits) : (s.setQ1 v).Fits := Cs.setQ1_fits h
theorem ft2 {v : Bool} (h : s.Fits) : (s.setQ2 v).Fits := Cs.setQ2_fits h
theorem ftT {v : Bool} (h : s.Fits) : (s.setHT v).Fits := Cs.setHT_fits h
theorem ftY {v : Bool} (h : s.Fits) : (s.setDL v).Fits := Cs.setDL_fits h
theorem ftr {r : Rg} (h : s.Fits) (hr : r.Fits) : (s.setR r).Fits := Cs.setR_fits h hr
theorem ftZ {v : Nat} (h : s.Fits) (hv : v < 256) : (s.ahead v).Fits := Cs.ahead_fits h hv
theorem sc0 {v : Nat} : (s.cells b).set 0 (.int .u8 (v : Int)) = (s.setA v).cells b := rfl
theorem sc1 {v : Nat} : (s.cells b).set 1 (.int .u8 (v : Int)) = (s.setF v).cells b := rfl
theorem sc2 {v : Nat} : (s.cells b).set 2 (.int .u8 (v : Int)) = (s.setB v).cells b := rfl
theorem sc3 {v : Nat} : (s.cells b).set 3 (.int .u8 (v : Int)) = (s.setC v).cells b := rfl
theorem sc4 {v : Nat} : (s.cells b).set 4 (.int .u8 (v : Int)) = (s.setD v).cells b := rfl
theorem sc5 {v : Nat} : (s.cells b).set 5 (.int .u8 (v : Int)) = (s.setE v).cells b := rfl
theorem sc6 {v : Nat} : (s.cells b).set 6 (.int .u8 (v : Int)) = (s.setH v).cells b := rfl
theorem sc7 {v : Nat} : (s.cells b).set 7 (.int .u8 (v : Int)) = (s.setL v).cells b := rfl
theorem sc16 {v : Nat} : (s.cells b).set 16 (.int .u16 (v : Int)) = (s.setIX v).cells b := rfl
theorem sc17 {v : Nat} : (s.cells b).set 17 (.int .u16 (v : Int)) = (s.setIY v).cells b := rfl
theorem sc18 {v : Nat} : (s.cells b).set 18 (.int .u16 (v : Int)) = (s.setSP v).cells b := rfl
theorem sc19 {v : Nat} : (s.cells b).set 19 (.int .u16 (v : Int)) = (s.setPC v).cells b := rfl
theorem sc20 {v : Nat} : (s.cells b).set 20 (.int .u16 (v : Int)) = (s.setWZ v).cells b := rfl
theorem sc21 {v : Nat} : (s.cells b).set 21 (.int .u8 (v : Int)) = (s.setI v).cells b := rfl
theorem sc22 {v : Nat} : (s.cells b).set 22 (.int .u8 (v : Int)) = (s.setRR v).cells b := rfl
theorem sc23 {v : Nat} : (s.cells b).set 23 (.int .u8 (v : Int)) = (s.setIM v).cells b := rfl
theorem sc24 {v : Nat} : (s.cells b).set 24 (.int .u8 (v : Int)) = (s.setPX v).cells b := rfl
theorem sc25 {v : Bool} : (s.cells b).set 25 (.bool v) = (s.setQ1 v).cells b := rfl
theorem sc26 {v : Bool} : (s.cells b).set 26 (.bool v) = (s.setQ2 v).cells b := rfl
theorem sc27 {v : Bool} : (s.cells b).set 27 (.bool v) = (s.setHT v).cells b := rfl
theorem sc28 {v : Bool} : (s.cells b).set 28 (.bool v) = (s.setDL v).cells b := rfl
theorem sc30 {v : Nat} : (s.cells b).set 30 (.int .u8 (v : Int)) = (s.ahead v).cells b := rfl
theorem Zkn {ty : TypeId} (h : ty = 5 ∨ ty = 23 ∨ ty = 4 ∨ ty = 50) : One Tryz.prog ty := by
 rcases h with rfl | rfl | rfl | rfl
 ·exact oneU8
 ·exact oneU16
 ·exact oneBool
 ·exact oneWorld
theorem cget {g off : Nat} {cs : List Value} (HM : Hid (Own W0 w ((g, t, cs) :: l))) (ho : o.op = .load ty x) (hx : a.eval x = .pointer (some ⟨g, off, none⟩)) (hty : One P ty) (hd : cs[off]? = some v) (hw : Region.wanted o (yielded ops a.tmps) = true)
  (h : wpList P ops Q rest (a.put o.dst v) w) : wpList P ops Q (o :: rest) a w := Yr HM ho hx hty .z hd hw h
theorem crow (HM : Hid (Own W0 w ((c, t, s.cells b) :: l))) (ho : o.op = .load 25 x) (hx : a.eval x = .pointer (some ⟨c, 0, none⟩)) (hw : Region.wanted o (yielded ops a.tmps) = true)
  (h : wpList Tryz.prog ops Q rest (a.put o.dst (.agg s.r.cells.toArray)) w) : wpList Tryz.prog ops Q (o :: rest) a w := Y6 HM ho hx aggR .z (Cs.drop0 _ _) (Cs.take29 _ _) hw h
theorem clay {r : Rg} (HM : Hid (Own W0 w ((c, t, s.cells b) :: l))) (ho : o.op = .store 25 x y) (hx : a.eval x = .pointer (some ⟨c, 0, none⟩)) (hy : a.eval y = v) (hv : v.cells = r.cells.toArray) (hw : Region.wanted o (yielded ops a.tmps) = true) (hd : o.dst = none)
  (h : ∀ w', Hid (Own W0 w' ((c, t, (s.setR r).cells b) :: l)) → wpList Tryz.prog ops Q rest a w') : wpList Tryz.prog ops Q (o :: rest) a w := Z8 HM ho hx hy hv .z (Cs.over29 _ _ _) .z aggR.size (Rg.cells_length _) (Rg.one1 _) hw hd h
theorem cput {i : Nat} (HM : Hid (Own W0 w ((c, t, s.cells b) :: l))) (ho : o.op = .store ty x y) (hx : a.eval x = .pointer (some ⟨c, i, none⟩)) (hy : a.eval y = v) (hs : (s.cells b).set i v = s'.cells b) (hty : j5 P ty 1) (h1 : v.oneCell' = true) (hw : Region.wanted o (yielded ops a.tmps) = true) (hi : i < 31)
  (hd : o.dst = none) (h : ∀ w', Hid (Own W0 w' ((c, t, s'.cells b) :: l)) → wpList P ops Q rest a w') : wpList P ops Q (o :: rest) a w := Ye HM ho hx hy .z hs .z hty h1 hw hi hd h
theorem cgY {g off : Nat} {cs : List Value} (HM : Hid (Own W0 w ((g, t, cs) :: l))) (h : o.op = .load ty x ∧ a.eval x = .pointer (some ⟨g, off, none⟩) ∧ One P ty ∧ cs[off]? = some v ∧ Region.wanted o (yielded ops a.tmps) = true)
  (k : wpList P ops Q rest (a.put o.dst v) w) : wpList P ops Q (o :: rest) a w := cget HM h.1 h.2.1 h.2.2.1 h.2.2.2.1 h.2.2.2.2 k
theorem crY (HM : Hid (Own W0 w ((c, t, s.cells b) :: l))) (h : o.op = .load 25 x ∧ a.eval x = .pointer (some ⟨c, 0, none⟩) ∧ Region.wanted o (yielded ops a.tmps) = true)
  (k : wpList Tryz.prog ops Q rest (a.put o.dst (.agg s.r.cells.toArray)) w) : wpList Tryz.prog ops Q (o :: rest) a w := crow HM h.1 h.2.1 h.2.2 k
theorem clY {r : Rg} (HM : Hid (Own W0 w ((c, t, s.cells b) :: l))) (h : o.op = .store 25 x y ∧ a.eval x = .pointer (some ⟨c, 0, none⟩) ∧ a.eval y = v ∧ v.cells = r.cells.toArray ∧ Region.wanted o (yielded ops a.tmps) = true ∧ o.dst = none)
  (k : ∀ w', Hid (Own W0 w' ((c, t, (s.setR r).cells b) :: l)) → wpList Tryz.prog ops Q rest a w') : wpList Tryz.prog ops Q (o :: rest) a w := clay HM h.1 h.2.1 h.2.2.1 h.2.2.2.1 h.2.2.2.2.1 h.2.2.2.2.2 k
theorem cpY {i : Nat} (HM : Hid (Own W0 w ((c, t, s.cells b) :: l))) (h : o.op = .store ty x y ∧ a.eval x = .pointer (some ⟨c, i, none⟩) ∧ a.eval y = v ∧ (s.cells b).set i v = s'.cells b ∧ j5 P ty 1 ∧ v.oneCell' = true ∧ Region.wanted o (yielded ops a.tmps) = true ∧ i < 31 ∧ o.dst = none)
  (k : ∀ w', Hid (Own W0 w' ((c, t, s'.cells b) :: l)) → wpList P ops Q rest a w') : wpList P ops Q (o :: rest) a w := cput HM h.1 h.2.1 h.2.2.1 h.2.2.2.1 h.2.2.2.2.1 h.2.2.2.2.2.1 h.2.2.2.2.2.2.1 h.2.2.2.2.2.2.2.1 h.2.2.2.2.2.2.2.2 k
theorem Co.ok {X : Zj} (h : Own W0 w ((c, 52, s.cells b) :: (l ++ X))) (hg : s.u.Good n) (hX : JV X b s.u)
  (hf : s.Fits := by first | with_reducible exact HF.out | (focus repeat' (first | (with_reducible first | exact HF.out | apply ftA | apply ftF | apply ftB | apply ftC | apply ftD | apply ftE | apply ftH | apply ftL | apply ftS | apply ftP | apply ftW | apply ftI | apply ftR | apply ftM | apply ftX | apply ft1 | apply ft2 | apply ftT | apply ftY | apply ftZ | apply ftr | exact Zy _ | exact ZP _ | exact Zt _ _ | exact Zm _ _ _ _ _ _ _ _ | exact Nat.mod_lt _ (by decide)) | assumption | omega | exact Nat.mod_lt _ (by decide)))) : Co W0 w c b s l n := ⟨hf, hg, X, hX, h⟩
theorem Za {X : Zj} (h : Hid (Own W0 w ((c, 52, s.cells b) :: (l ++ X)))) (hg : Hid (s.u.Good n)) (hX : Hid (JV X b s.u))
  (hf : s.Fits := by first | with_reducible exact HF.out | (focus repeat' (first | (with_reducible first | exact HF.out | apply ftA | apply ftF | apply ftB | apply ftC | apply ftD | apply ftE | apply ftH | apply ftL | apply ftS | apply ftP | apply ftW | apply ftI | apply ftR | apply ftM | apply ftX | apply ft1 | apply ft2 | apply ftT | apply ftY | apply ftZ | apply ftr | exact Zy _ | exact ZP _ | exact Zt _ _ | exact Zm _ _ _ _ _ _ _ _ | exact Nat.mod_lt _ (by decide)) | assumption | omega | exact Nat.mod_lt _ (by decide)))) : Hid (Co W0 w c b s l n) := Zb ⟨hf, hg.out, X, hX.out, h.out⟩
theorem Co.hid (h : Co W0 w c b s l n) : ∃ X, Hid s.Fits ∧ Hid (s.u.Good n) ∧ Hid (JV X b s.u) ∧ Hid (Own W0 w ((c, 52, s.cells b) :: (l ++ X))) := by
 obtain ⟨h1, h2, X, h3, h4⟩ := h.out
 exact ⟨X, h1, h2, h3, h4⟩
theorem Co.hif (h : Co W0 w c b s l n) : ∃ X, s.Fits ∧ Hid s.Fits ∧ Hid (s.u.Good n) ∧ Hid (JV X b s.u) ∧ Hid (Own W0 w ((c, 52, s.cells b) :: (l ++ X))) := by
 obtain ⟨X, h1, h2, h3, h4⟩ := h.hid
 exact ⟨X, h1.out, h1, h2, h3, h4⟩
theorem Co.hid1 {e : Nat × TypeId × List Value} (h : Co W0 w c b s (e :: l) n) : ∃ X, Hid s.Fits ∧ Hid (s.u.Good n) ∧ Hid (JV X b s.u) ∧ Hid (Own W0 w ((c, 52, s.cells b) :: e :: (l ++ X))) := h.hid
theorem Co.hid2 {e e' : Nat × TypeId × List Value} (h : Co W0 w c b s (e :: e' :: l) n) : ∃ X, Hid s.Fits ∧ Hid (s.u.Good n) ∧ Hid (JV X b s.u) ∧ Hid (Own W0 w ((c, 52, s.cells b) :: e :: e' :: (l ++ X))) := h.hid
theorem Zen {e : Nat × TypeId × List Value} {vs : List Value} (HM : Hid (Own W0 w (e :: l))) (ho : o.op = .box ty x) (hy : a.eval x = v) (hv : v.cells = vs.toArray) (hw : Region.wanted o (yielded ops a.tmps) = true)
  (h : ∀ w' g, Hid (Own W0 w' (e :: (g, ty, vs) :: l)) → wpList P ops Q rest (a.put o.dst (.pointer (some ⟨g, 0, none⟩))) w') : wpList P ops Q (o :: rest) a w := Ul HM ho hy hv hw fun w' g h' => h w' g (Zb (h'.out.perm (List.Perm.swap _ _ _)))
end
theorem coK {W0 : World} {r : Value} {K : Ending → World → Prop} (k : ∀ w' X, Hid s.Fits → Hid (s.u.Good n) → Hid (JV X b s.u) → Hid (Own W0 w' ((c, 52, s.cells b) :: (l ++ X))) → K (.returned r) w') : ∀ e w', e = .returned r ∧ Hid (Co W0 w' c b s l n) → K e w' := by
 rintro e w' ⟨rfl, hc⟩
 obtain ⟨X, h1, h2, h3, h4⟩ := hc.out.hid
 exact k w' X h1 h2 h3 h4
theorem Z2 {W0 : World} {e0 : Nat × TypeId × List Value} {r : Value} {K : Ending → World → Prop} (k : ∀ w' X, Hid s.Fits → Hid (s.u.Good n) → Hid (JV X b s.u) → Hid (Own W0 w' ((c, 52, s.cells b) :: e0 :: (l ++ X))) → K (.returned r) w') : ∀ e w', e = .returned r ∧ Hid (Co W0 w' c b s (e0 :: l) n) → K e w' := by
 rintro e w' ⟨rfl, hc⟩
 obtain ⟨X, h1, h2, h3, h4⟩ := hc.out.hid1
 exact k w' X h1 h2 h3 h4
theorem and8i {a b : Nat} (h : a < 256) : ((a &&& b : Nat) : Int) < 256 := by have := vC (b := b) h; omega
theorem Zko {a b : Nat} (h : b < 256) : ((a &&& b : Nat) : Int) < 256 := by have := vD (a := a) h; omega
theorem or8i {a b : Nat} (h : a < 256) (h' : b < 256) : ((a ||| b : Nat) : Int) < 256 := by have := or8 h h'; omega
theorem xor8i {a b : Nat} (h : a < 256) (h' : b < 256) : ((a ^^^ b : Nat) : Int) < 256 := by have := ZgZ h h'; omega
theorem YN {a : Int} {v : Nat} (h : a = (v : Int)) : (Ending.returned (.int .u8 a) : Ending) = .returned (.int .u8 (v : Int)) := by rw [h]
theorem ZR {a b : Int} {v f : Nat} (h : a = (v : Int)) (h' : b = (f : Int)) : (Ending.returned (.tuple #[.int .u8 a, .int .u8 b]) : Ending) = .returned (.tuple #[.int .u8 (v : Int), .int .u8 (f : Int)]) := by rw [h, h']
theorem Zbs {a b : Bool} (h : a = b) : (Ending.returned (.bool a) : Ending) = .returned (.bool b) := by rw [h]
theorem Zeo {s : ByteArray} {r : Nat → Nat} (hr : allB 256 (fun v => Nat.beq (s.data.getD v 0).toNat (r v)) = true) (v : Nat) (h : v < 256) (h' : v < s.size) : (s[v]'h').toNat = r v := by
 have e := Nat.eq_of_beq_eq_true (Zu hr v h)
 have hv : v < s.data.size := h'
 have e2 : (s[v]'h') = s.data.getD v 0 := by
  show s.data[v] = _
  rw [Array.getD_eq_getD_getElem?, Array.getElem?_eq_getElem hv]; rfl
 rw [e2, e]
theorem Wk (n : Nat) (h : n ≤ 8) : wrap64 (n : Int) = n := by unfold wrap64; omega
theorem Zep (v : Nat) (h : v < 256) (w : World) : CW 215 #[.int .u8 (v : Int)] w (.int .i64 ((nOnes 8 v : Nat) : Int)) := by
 obtain ⟨n, hn⟩ : ∃ n, n = nOnes 8 v := ⟨_, rfl⟩
 have l : n ≤ 8 := by
  rw [hn]
  simpa using Zu (show allB 256 (fun v => Nat.ble (nOnes 8 v) 8) = true by decide +kernel) v h
 rw [← hn]
 have HN := Zb hn.symm
 clear hn
 go_enter Tryz.func215, Tryz.ntmps215
 go_wp2
 go_ret
 refine ⟨congrArg (fun x => Ending.returned (Value.int .i64 x)) ?_, rfl⟩
 rw [← Wk n l, ← HN.out]
 refine congrArg (fun x : Nat => wrap64 (x : Int)) ?_
 exact Zeo (by kernel_rfl) v h _
theorem Zhh (v : Nat) (h : v < 256) : nOnes 8 v ≤ 8 := by
 have := Zu (show allB 256 (fun v => Nat.ble (nOnes 8 v) 8) = true by decide +kernel) v h
 simpa using this
theorem Kw (v : Nat) (h : v < 256) (w : World) : CW 178 #[.int .u8 (v : Int)] w (.bool (Jt v)) := by
 obtain ⟨n, hn⟩ : ∃ n, n = nOnes 8 v := ⟨_, rfl⟩
 have l : n ≤ 8 := hn ▸ Zhh v h
 have HN := Zb hn
 have hp : Jt v = Nat.beq (Nat.mod n 2) 0 := by rw [hn]; rfl
 rw [hp]
 clear hp hn
 have hb : bits .and .i64 (n : Int) 1 = (n : Int) % 2 := by
  have : n = 0 ∨ n = 1 ∨ n = 2 ∨ n = 3 ∨ n = 4 ∨ n = 5 ∨ n = 6 ∨ n = 7 ∨ n = 8 := by omega
  rcases this with rfl | rfl | rfl | rfl | rfl | rfl | rfl | rfl | rfl <;> decide +kernel
 go_enter Tryz.func178, Tryz.ntmps178
 go_wp2_with (go_at_call 215; refine (Zep v h _).mono ?_; rintro e w' ⟨rfl, rfl⟩; rw [← HN.out])
 go_ret
 refine ⟨Zbs ?_, rfl⟩
 rw [Bool.eq_iff_iff, Nat.beq_eq]
 show _ ↔ n % 2 = 0
 simp
 omega
theorem Wl (v : Nat) (p : Bool) (h : v < 256) (hp : Hid (Jt v = p)) (w : World) : CW 178 #[.int .u8 (v : Int)] w (.bool p) := by
 rw [← hp.out]; exact Kw v h w
theorem yf (on : Bool) (n : Nat) (w : World) : CW 218 #[.bool on, .int .u8 (n : Int)] w (.int .u8 ((cond on n 0 : Nat) : Int)) := by
 cases on
 all_goals
  go_enter Tryz.func218, Tryz.ntmps218
  go_wp2
  go_ret
  exact ⟨rfl, rfl⟩
theorem Kx (on : Bool) (n : Nat) (b : Bool) (r : Nat) (hb : on = b) (hr : Hid (cond b n 0 = r)) (w : World) : CW 218 #[.bool on, .int .u8 (n : Int)] w (.int .u8 (r : Int)) := by
 rw [hb, ← hr.out]; exact yf b n w
theorem Zbt (v : Nat) (h : v < 256) (w : World) : CW 213 #[.int .u8 (v : Int)] w (.int .u8 ((nShape v : Nat) : Int)) := by
 have HS := Zb (vF v h)
 obtain ⟨r, hr⟩ : ∃ r, cond (Nat.beq v 0) 64 0 = r := ⟨_, rfl⟩
 rw [hr] at HS
 have HR := Zb hr
 have r1 : r < 256 := by rw [← hr]; cases Nat.beq v 0 <;> decide
 clear hr
 go_enter Tryz.func213, Tryz.ntmps213
 go_wp2_with (go_at_call 218; refine (Kx _ 64 (Nat.beq v 0) r (by rw [Bool.eq_iff_iff, beq_iff_eq, Nat.beq_eq]; omega) HR _).mono ?_; rintro e w' ⟨rfl, rfl⟩)
 go_ret
 refine ⟨YN ?_, rfl⟩
 rw [← HS.out]
 simp (disch := exact bS) only [u8_and, u8_or, Int.reduceToNat, Int.toNat_natCast]
 rfl
theorem J0 (v r : Nat) (h : v < 256) (hr : Hid (nShape v = r)) (w : World) : CW 213 #[.int .u8 (v : Int)] w (.int .u8 (r : Int)) := by
 rw [← hr.out]; exact Zbt v h w
def Zhi (v a b c : Nat) : Nat :=
 Nat.lor (Nat.lor (Nat.lor (nShape v) (Nat.land (Nat.div (Nat.add (Nat.add a b) c) 256) 1)) (Nat.land (Nat.xor (Nat.xor a b) v) 16)) (Nat.land (Nat.div (Nat.land (Nat.xor a v) (Nat.xor b v)) 32) 4)
def Zeq (a b c : Nat) : Nat := Zhi (Yw a b c) a b c
theorem add_all : allB 256 (fun a => allB 256 fun b => and (Nat.beq (Zeq a b 0) (Yp a b 0)) (Nat.beq (Zeq a b 1) (Yp a b 1))) = true := by decide +kernel
theorem Zer (a b c : Nat) (ha : a < 256) (hb : b < 256) (hc : c ≤ 1) : Zeq a b c = Yp a b c := by
 have h := Yb add_all a b ha hb
 rw [Bool.and_eq_true] at h
 rcases (show c = 0 ∨ c = 1 by omega) with rfl | rfl
 ·exact Nat.eq_of_beq_eq_true h.1
 ·exact Nat.eq_of_beq_eq_true h.2
theorem Zbu (a b c v f s : Nat) (ha : a < 256) (hb : b < 256) (hc : c ≤ 1) (hv : Yw a b c = v) (hf : Yp a b c = f) (hs : nShape v = s) :
  (((s ||| ((a + b + c) / 256 &&& 1)) ||| ((a ^^^ b ^^^ v) &&& 16)) ||| (((a ^^^ v) &&& (b ^^^ v)) / 32 &&& 4)) = f := by
 subst hs hf
 rw [← Zer a b c ha hb hc]
 unfold Zeq
 rw [hv]
 rfl
theorem Zbv (a b c v : Nat) (hv : Yw a b c = v) : (a + b + c) % 256 = v := hv
theorem yg (a b : Nat) (c : Bool) (v f : Nat) (ha : a < 256) (hb : b < 256) (hv : Hid (Yw a b c.toNat = v)) (hf : Hid (Yp a b c.toNat = f)) (w : World) :
  CW 182 #[.int .u8 (a : Int), .int .u8 (b : Int), .bool c] w (.tuple #[.int .u8 (v : Int), .int .u8 (f : Int)]) := by
 have v1 : v < 256 := by rw [← hv.out]; exact YL _ _ _
 obtain ⟨s, hs⟩ : ∃ s, nShape v = s := ⟨_, rfl⟩
 have s1 : s < 256 := by rw [← hs]; exact Zm _ _ _ _ _ _ _ _
 have HT := Zb hs
 have HF := Zb (Zbu a b c.toNat v f s ha hb (by cases c <;> decide) hv.out hf.out hs)
 have hv2 := Zbv a b c.toNat v hv.out
 clear hs hf hv
 obtain ⟨k, hk⟩ : ∃ k, cond c 1 0 = k := ⟨_, rfl⟩
 have k1 : k ≤ 1 := by rw [← hk]; cases c <;> decide
 have hk2 : c.toNat = k := by rw [← hk]; cases c <;> rfl
 rw [hk2] at HF hv2
 have hv3 : ((a : Int) + (b : Int) + (k : Int)) % 256 = (v : Int) := by omega
 clear hv2
 have HK := Zb hk
 clear hk hk2
 go_enter Tryz.func182, Tryz.ntmps182
 go_wp2_with (first | (go_at_call 218; refine (Kx _ 1 c k rfl HK _).mono ?_; rintro e w' ⟨rfl, rfl⟩) | (go_at_call 213; refine (J0 v s v1 HT _).mono ?_; rintro e w' ⟨rfl, rfl⟩))
 go_ret2
 refine ⟨ZR rfl ?_, rfl⟩
 rw [← HF.out]
 have e1 : ((a : Int) + (b : Int) + (k : Int)) / 256 = (((a + b + k) / 256 : Nat) : Int) := by omega
 have e2 : (((a ^^^ v) &&& (b ^^^ v) : Nat) : Int) / 32 = ((((a ^^^ v) &&& (b ^^^ v)) / 32 : Nat) : Int) := by omega
 have e3 : (a ^^^ v) &&& (b ^^^ v) < 256 := vC (ZgZ ha v1)
 have e4 : ((a ^^^ v) &&& (b ^^^ v)) / 32 < 256 := by omega
 rw [e1]
 simp (disch := exact bS) only [u8_and, u8_xor, Int.reduceToNat, Int.toNat_natCast]
 rw [e2]
 simp (disch := exact bS) only [u8_or, Int.toNat_natCast]
theorem J2 (v : Nat) (h : v < 256) (w : World) : CW 227 #[.int .u8 (v : Int)] w (.int .u8 ((nBitsF v false : Nat) : Int)) := by
 have HS := Zb (Wc v h)
 obtain ⟨s, hs⟩ : ∃ s, nShape v = s := ⟨_, rfl⟩
 have s1 : s < 256 := hs ▸ Zm _ _ _ _ _ _ _ _
 have HT := Zb hs
 obtain ⟨b, hb⟩ : ∃ b, Jt v = b := ⟨_, rfl⟩
 have HB := Zb hb
 obtain ⟨r, hr⟩ : ∃ r, cond b 4 0 = r := ⟨_, rfl⟩
 have HR := Zb hr
 have r1 : r < 256 := by rw [← hr]; cases b <;> decide
 rw [hs, hb, hr] at HS
 clear hr hb hs
 go_enter Tryz.func227, Tryz.ntmps227
 go_wp2_with (first | (go_at_call 213; refine (J0 v s h HT _).mono ?_; rintro e w' ⟨rfl, rfl⟩) | (go_at_call 178; refine (Kw v h _).mono ?_; rintro e w' ⟨rfl, rfl⟩; rw [HB.out]) | (go_at_call 218; refine (Kx _ 4 b r rfl HR _).mono ?_; rintro e w' ⟨rfl, rfl⟩))
 exact k62
theorem Yf (v r : Nat) (h : v < 256) (hr : Hid (nBitsF v false = r)) (w : World) : CW 227 #[.int .u8 (v : Int)] w (.int .u8 (r : Int)) := by
 rw [← hr.out]; exact J2 v h w
theorem not8 (b : Nat) (h : b < 256) : bits .xor .u8 IntKind.u8.max (b : Int) = ((255 - b : Nat) : Int) := by
 show bits .xor .u8 255 (b : Int) = _
 rw [u8_xor _ _ (by omega) (by omega) (by omega) (by omega), Int.toNat_natCast]
 have := Nat.eq_of_beq_eq_true (Zu (p := fun b => Nat.beq (Nat.xor 255 b) (Nat.sub 255 b)) (n := 256) (by decide +kernel) b h)
 exact congrArg _ this
theorem Zes (c : Bool) : c.toNat ≤ 1 := by cases c <;> decide
theorem V2 (a b : Nat) (c : Bool) (v f : Nat) (ha : a < 256) (hb : b < 256) (hv : Hid (ZY a b c.toNat = v)) (hf : Hid (ZU a b c.toNat = f)) (w : World) :
  CW 123 #[.int .u8 (a : Int), .int .u8 (b : Int), .bool c] w (.tuple #[.int .u8 (v : Int), .int .u8 (f : Int)]) := by
 have hs := vG a b c.toNat ha hb (Zes c)
 rw [hv.out, hf.out] at hs
 obtain ⟨g, hg⟩ : ∃ g, Yp a (255 - b) (1 - c.toNat) = g := ⟨_, rfl⟩
 have g1 : g < 256 := by rw [← hg]; exact JU _ _ _
 have hc : (!c).toNat = 1 - c.toNat := by cases c <;> rfl
 rw [← hc] at hs hg
 have HF : Hid (g ^^^ 17 ||| 2 = f) := by have h := hs.2; rw [hg] at h; exact h
 have HV := Zb hs.1
 have HG := Zb hg
 clear hs hg hv hf
 have hn := not8 b hb
 obtain ⟨n, hn2⟩ : ∃ n, 255 - b = n := ⟨_, rfl⟩
 have n1 : n < 256 := by omega
 rw [hn2] at hn HV HG
 clear hn2 hc
 go_enter Tryz.func123, Tryz.ntmps123
 go_wp2_with fail
 refine (yg a n (!c) v g ha n1 HV HG _).mono ?_
 rintro e w2 ⟨rfl, rfl⟩
 clear hn HG HV
 go_wp2_with fail
 go_ret2
 refine ⟨ZR rfl ?_, rfl⟩
 rw [← HF.out]
 simp (disch := exact bS) only [u8_xor, u8_or, Int.reduceToNat, Int.toNat_natCast]
theorem Zhj (v : Nat) (h : Bool) (g : Nat) (hg : Hid (nBitsF v h = g)) : g < 256 := by rw [← hg.out]; exact YV _ _
theorem Zkp (a b v g : Nat) (ha : a < 256) (hb : b < 256) (hv : Hid (a &&& b = v)) (hg : Hid (nBitsF v true = g)) (w : World) :
  CW 204 #[.int .u8 (a : Int), .int .u8 (b : Int)] w (.tuple #[.int .u8 (v : Int), .int .u8 (g : Int)]) := by
 have v1 : v < 256 := by rw [← hv.out]; exact vC ha
 have hx : bits .and .u8 (a : Int) (b : Int) = (v : Int) := by rw [← hv.out]; exact u8_and_nat a b ha hb
 obtain ⟨k, hk⟩ : ∃ k, Hid (nBitsF v false = k) := ⟨_, rfl⟩
 have k1 := Zhj v false k hk
 have HG : Hid (k ||| 16 = g) := by have h := Zbk v v1; rw [hk.out, hg.out] at h; exact h
 clear hg hv
 go_enter Tryz.func204, Tryz.ntmps204
 go_wp2_with (go_at_call 227; refine (Yf v k v1 hk _).mono ?_; rintro e w' ⟨rfl, rfl⟩)
 go_ret2
 refine ⟨ZR rfl ?_, rfl⟩
 rw [← HG.out]
 simp (disch := exact bS) only [u8_or, Int.reduceToNat, Int.toNat_natCast]
theorem or_at (a b v g : Nat) (ha : a < 256) (hb : b < 256) (hv : Hid (a ||| b = v)) (hg : Hid (nBitsF v false = g)) (w : World) :
  CW 206 #[.int .u8 (a : Int), .int .u8 (b : Int)] w (.tuple #[.int .u8 (v : Int), .int .u8 (g : Int)]) := by
 have v1 : v < 256 := by rw [← hv.out]; exact or8 ha hb
 have hx : bits .or .u8 (a : Int) (b : Int) = (v : Int) := by rw [← hv.out]; exact u8_or_nat a b ha hb
 clear hv
 go_enter Tryz.func206, Tryz.ntmps206
 go_wp2_with (go_at_call 227; refine (Yf v g v1 hg _).mono ?_; rintro e w' ⟨rfl, rfl⟩)
 go_ret2
 exact ⟨ZR rfl rfl, rfl⟩
theorem Zkq (a b v g : Nat) (ha : a < 256) (hb : b < 256) (hv : Hid (a ^^^ b = v)) (hg : Hid (nBitsF v false = g)) (w : World) :
  CW 205 #[.int .u8 (a : Int), .int .u8 (b : Int)] w (.tuple #[.int .u8 (v : Int), .int .u8 (g : Int)]) := by
 have v1 : v < 256 := by rw [← hv.out]; exact ZgZ ha hb
 have hx : bits .xor .u8 (a : Int) (b : Int) = (v : Int) := by rw [← hv.out]; exact u8_xor_nat a b ha hb
 clear hv
 go_enter Tryz.func205, Tryz.ntmps205
 go_wp2_with (go_at_call 227; refine (Yf v g v1 hg _).mono ?_; rintro e w' ⟨rfl, rfl⟩)
 go_ret2
 exact ⟨ZR rfl rfl, rfl⟩
theorem vU (a b g : Nat) (ha : a < 256) (hb : b < 256) (hg : Hid (ZgY a b = g)) (w : World) :
  CW 207 #[.int .u8 (a : Int), .int .u8 (b : Int)] w (.int .u8 (g : Int)) := by
 obtain ⟨v, hv⟩ : ∃ v, Hid (ZY a b 0 = v) := ⟨_, rfl⟩
 obtain ⟨f, hf⟩ : ∃ f, Hid (ZU a b 0 = f) := ⟨_, rfl⟩
 have f1 : f < 256 := by rw [← hf.out]; exact YM _ _ _
 have HG : Hid ((f &&& 215) ||| (b &&& 40) = g) := by show _ = _; rw [← hg.out]; unfold ZgY; rw [hf.out]; rfl
 clear hg
 go_enter Tryz.func207, Tryz.ntmps207
 go_wp2_with (go_at_call 123; refine (V2 a b false v f ha hb hv hf _).mono ?_; rintro e w' ⟨rfl, rfl⟩)
 go_ret
 refine ⟨YN ?_, rfl⟩
 rw [← HG.out]
 simp (disch := exact bS) only [u8_and, u8_or, u8_andNot, Int.reduceToNat, Int.toNat_natCast, Nat.reduceSub]
theorem Zbw (a f v g : Nat) (ha : a < 256) (hf : f < 256) (hv : Hid (Yw a 1 0 = v)) (hg : Hid (YE (Yp a 1 0) f = g)) (w : World) :
  CW 145 #[.int .u8 (a : Int), .int .u8 (f : Int)] w (.tuple #[.int .u8 (v : Int), .int .u8 (g : Int)]) := by
 obtain ⟨k, hk⟩ : ∃ k, Hid (Yp a 1 0 = k) := ⟨_, rfl⟩
 have k1 : k < 256 := by rw [← hk.out]; exact JU _ _ _
 have HG : Hid ((k &&& 254) ||| (f &&& 1) = g) := by show _ = _; rw [← hg.out, hk.out]; rfl
 clear hg
 go_enter Tryz.func145, Tryz.ntmps145
 go_wp2_with (go_at_call 182; refine (yg a 1 false v k ha (by omega) hv hk _).mono ?_; rintro e w' ⟨rfl, rfl⟩)
 go_ret2
 refine ⟨ZR rfl ?_, rfl⟩
 rw [← HG.out]
 simp (disch := exact bS) only [u8_and, u8_or, u8_andNot, Int.reduceToNat, Int.toNat_natCast, Nat.reduceSub]
theorem Zbx (a f v g : Nat) (ha : a < 256) (hf : f < 256) (hv : Hid (ZY a 1 0 = v)) (hg : Hid (YE (ZU a 1 0) f = g)) (w : World) :
  CW 146 #[.int .u8 (a : Int), .int .u8 (f : Int)] w (.tuple #[.int .u8 (v : Int), .int .u8 (g : Int)]) := by
 obtain ⟨k, hk⟩ : ∃ k, Hid (ZU a 1 0 = k) := ⟨_, rfl⟩
 have k1 : k < 256 := by rw [← hk.out]; exact YM _ _ _
 have HG : Hid ((k &&& 254) ||| (f &&& 1) = g) := by show _ = _; rw [← hg.out, hk.out]; rfl
 clear hg
 go_enter Tryz.func146, Tryz.ntmps146
 go_wp2_with (go_at_call 123; refine (V2 a 1 false v k ha (by omega) hv hk _).mono ?_; rintro e w' ⟨rfl, rfl⟩)
 go_ret2
 refine ⟨ZR rfl ?_, rfl⟩
 rw [← HG.out]
 simp (disch := exact bS) only [u8_and, u8_or, u8_andNot, Int.reduceToNat, Int.toNat_natCast, Nat.reduceSub]
theorem Zby {p q : Nat → Nat → Nat} (h : allB 256 (fun a => allB 256 fun b => Nat.beq (p a b) (q a b)) = true) (a b : Nat) (ha : a < 256) (hb : b < 256) : p a b = q a b := Nat.eq_of_beq_eq_true (Yb h a b ha hb)
def Zgq (a f : Nat) : Nat := Nat.lor (Nat.lor (Nat.lor (Nat.lor (Nat.land f 196) (Nat.land f 1)) 16) 2) (Nat.land (Nat.sub 255 a) 40)
def Zgr (a f : Nat) : Nat := Nat.lor (Nat.lor (Nat.land f 196) 1) (Nat.land a 40)
def Zbz (a f : Nat) : Nat := Nat.lor (Nat.lor (Nat.lor (Nat.land f 196) (Nat.xor (Nat.land f 1) 1)) (cond (Zf 1 f) 16 0)) (Nat.land a 40)
theorem vV (a f : Nat) (ha : a < 256) (hf : f < 256) : Zgq a f = Zbh a f := Zby (by decide +kernel) a f ha hf
theorem vW (a f : Nat) (ha : a < 256) (hf : f < 256) : Zgr a f = Zbi a f := Zby (by decide +kernel) a f ha hf
theorem vX (a f : Nat) (ha : a < 256) (hf : f < 256) : Zbz a f = Zbj a f := Zby (by decide +kernel) a f ha hf
end
end Go.Proofs.YtgdeeiimkhjfiaaGreatDoor
