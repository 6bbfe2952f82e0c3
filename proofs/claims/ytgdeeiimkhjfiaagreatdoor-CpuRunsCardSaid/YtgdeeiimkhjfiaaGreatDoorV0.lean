import Derived.Test.YtgdeeiimkhjfiaaGreatDoorRows
import Derived.WalkKit
import Derived.WalkSpells
import Derived.WalkLawsBesides
import Derived.Lib.Hide
import Derived.Laws.CopyOwn
import Derived.Laws.Tables
import Derived.Laws.Rows
import Derived.Deep.MidRow
import Derived.BigQuiet
import Derived.Deep.AppendLies
import Derived.Laws.StructEq
import Derived.Laws.BitsAll
import Derived.Deep.Cut
import Derived.Deep.CutRange
set_option maxRecDepth 100000
set_option maxHeartbeats 6400000
namespace Go.Proofs.YtgdeeiimkhjfiaaGreatDoor
open Go.RowKit
theorem Zb {p : Prop} (h : p) : Hid p := Lib.hid h
theorem Zc {α : Type _} {a b : α} {l : List α} : (a :: l).set 0 b = b :: l := rfl
theorem Zd {α : Type _} {a b : α} {l : List α} {n : Nat} : (a :: l).set (n + 1) b = a :: l.set n b := rfl
theorem Ze {α : Type _} {l : List α} {i : Nat} {a : α} : l.toArray.setIfInBounds i a = (l.set i a).toArray := List.setIfInBounds_toArray ..
structure Hk (Q : Prop) : Prop where out : Q
theorem sS {P : Prop} (h : P := by with_reducible first | exact .z | exact .s .z | exact .s (.s .z) | exact .s (.s (.s .z)) | exact .s (.s (.s (.s .z)))) : P := h
theorem dS {P : Prop} (h : P := by focus repeat' (first | with_reducible exact .z | with_reducible apply Drop.s)) : P := h
theorem tS {P : Prop} (h : P := by focus repeat' (first | with_reducible exact .z | with_reducible apply Take.s)) : P := h
theorem vS {P : Prop} (h : P := by focus repeat' (first | with_reducible exact .z | with_reducible apply Over.p | with_reducible apply Over.s)) : P := h
theorem bS {P : Prop} (h : P := by focus repeat' (first | assumption | omega | exact Int.natCast_nonneg _ | with_reducible apply or8i | with_reducible apply xor8i | with_reducible apply or8 | with_reducible apply ZgZ | ((with_reducible apply Zko); omega) | ((with_reducible apply vD); omega) | with_reducible apply and8i | with_reducible apply vC)) : P := h
theorem oS {P : Prop} (h : P := by with_reducible first | exact oneU8 | exact oneU16 | exact oneBool | exact oneInt) : P := h
theorem wS {P : Prop} (h : P := by first | (with_reducible exact oneU8) | (with_reducible exact oneU16) | (with_reducible exact oneBool) | (with_reducible exact oneWorld)) : P := h
theorem xS {P : Prop} (h : P := by first | (with_reducible exact oneU8) | (with_reducible exact oneU16) | (with_reducible exact oneBool) | (with_reducible exact oneWp)) : P := h
theorem bS3 {P : Prop} (h : P := by first | (with_reducible exact oneU8) | (with_reducible exact oneU16) | (with_reducible exact oneBool)) : P := h
theorem zS {P : Prop} (h : P := by first | (with_reducible exact oneU8.size) | (with_reducible exact oneU16.size) | (with_reducible exact oneBool.size) | (with_reducible exact oneInt.size)) : P := h
theorem lS {P : Prop} (h : P := by first | exact Rg.cells_length _ | exact rfl) : P := h
theorem sc_S {P : Prop} (h : P := by first | exact sc0 | exact sc1 | exact sc2 | exact sc3 | exact sc4 | exact sc5 | exact sc6 | exact sc7 | exact sc16 | exact sc17 | exact sc18 | exact sc19 | exact sc20 | exact sc21 | exact sc22 | exact sc23 | exact sc24 | exact sc25 | exact sc26 | exact sc27 | exact sc28 | exact sc30) : P := h
theorem cgS {P : Prop} (h : P := by refine ⟨?_, ?_, ?_, ?_, ?_⟩; exact rfl; exact rfl; exact Zkn (by decide); exact rfl; exact rfl) : P := h
theorem crS {P : Prop} (h : P := by refine ⟨?_, ?_, ?_⟩; exact rfl; exact rfl; exact rfl) : P := h
theorem clS {P : Prop} (h : P := by refine ⟨?_, ?_, ?_, ?_, ?_, ?_⟩; exact rfl; exact rfl; (conv => lhs; whnf); exact rfl; exact rfl; exact rfl) : P := h
theorem cpS {P : Prop} (h : P := by refine ⟨?_, ?_, ?_, ?_, ?_, ?_, ?_, ?_, ?_⟩; exact rfl; exact rfl; exact rfl; exact sc_S; exact (Zkn (by decide)).size; exact rfl; exact rfl; (show (_ : Nat) < 31; decide); exact rfl) : P := h
theorem cG {P Q : Prop} (k : Q) (h : Hk Q → P := by intro hk; first | ((with_reducible apply cgY HM); exact cgS; exact hk.out) | ((with_reducible apply crY HM); exact crS; exact hk.out)) : P := h ⟨k⟩
theorem cP {P Q : Prop} (k : Q) (h : Hk Q → P := by intro hk; first | ((with_reducible apply cpY HM); exact cpS; exact hk.out) | ((with_reducible apply clY HM); exact clS; exact hk.out)) : P := h ⟨k⟩
theorem a0 {P Q : Prop} (k : Q) (h : Hk Q → P := by intro hk; (with_reducible apply Ul HM); exact rfl; (conv => lhs; whnf); exact rfl; exact rfl; exact hk.out) : P := h ⟨k⟩
theorem a1 {P Q : Prop} (k : Q) (h : Hk Q → P := by intro hk; (with_reducible apply xgY H); exact xgS; exact hk.out) : P := h ⟨k⟩
theorem a2 {P Q : Prop} (k : Q) (h : Hk Q → P := by intro hk; (with_reducible apply xpY H); exact xpS; exact hk.out) : P := h ⟨k⟩
theorem a3 {P Q : Prop} (k : Q) (h : Hk Q → P := by intro hk; (with_reducible apply ZbT HM); exact rfl; exact rfl; exact dS; exact rfl; exact hk.out) : P := h ⟨k⟩
theorem a4 {P Q : Prop} (k : Q) (h : Hk Q → P := by intro hk; (with_reducible apply Zen HM); exact rfl; (conv => lhs; whnf); exact rfl; exact rfl; exact hk.out) : P := h ⟨k⟩
theorem a5 {P Q : Prop} (k : Q) (h : Hk Q → P := by intro hk; (with_reducible apply ZbU HM); exact rfl; exact rfl; exact tS; exact rfl; exact hk.out) : P := h ⟨k⟩
theorem a6 {P Q : Prop} (k : Q) (h : Hk Q → P := by intro hk; (with_reducible apply ZgW HM); exact rfl; exact rfl; exact aggR; exact sS; exact rfl; exact lS; exact hk.out) : P := h ⟨k⟩
theorem a7 {P Q : Prop} (k : Q) (h : Hk Q → P := by intro hk; (with_reducible apply Kn HM); exact rfl; exact rfl; exact rfl; exact sS; exact sS; exact aggR.size; exact lS; exact lS; (first | exact Rg.one1 _ | exact rfl); exact rfl; exact rfl; exact hk.out) : P := h ⟨k⟩
theorem a8 {P Q : Prop} (k : Q) (h : Hk Q → P := by intro hk; (with_reducible apply YC HM); exact rfl; (with_reducible exact zeroR); exact rfl; exact hk.out) : P := h ⟨k⟩
theorem a9 {P Q : Prop} (k : Q) (h : Hk Q → P := by intro hk; (with_reducible apply YC HM); exact rfl; (first | (with_reducible exact zeroF)); exact rfl; exact hk.out) : P := h ⟨k⟩
theorem a10 {P Q : Prop} (k : Q) (h : Hk Q → P := by intro hk; (with_reducible apply YA HM); exact rfl; exact rfl; (first | (with_reducible exact oneBool)); exact sS; exact dS; exact rfl; exact hk.out) : P := h ⟨k⟩
theorem a11 {P Q : Prop} (k : Q) (h : Hk Q → P := by intro hk; (with_reducible apply Y6 HM); exact rfl; exact rfl; (first | (with_reducible exact aggF)); exact sS; exact dS; exact tS; exact rfl; exact hk.out) : P := h ⟨k⟩
theorem a12 {P Q : Prop} (k : Q) (h : Hk Q → P := by intro hk; (with_reducible apply Z8 HM); exact rfl; exact rfl; (conv => lhs; whnf); exact rfl; exact sS; exact vS; exact sS; (first | (with_reducible exact (aggF).size) | (with_reducible exact (oneBool).size)); exact rfl; exact rfl; exact rfl; exact rfl; exact hk.out) : P := h ⟨k⟩
theorem a13 {P Q : Prop} (k : Q) (h : Hk Q → P := by intro hk; (with_reducible apply Yr HM); exact rfl; exact rfl; exact oS; exact sS; (conv => lhs; whnf); exact rfl; exact hk.out) : P := h ⟨k⟩
theorem a14 {P Q : Prop} (k : Q) (h : Hk Q → P := by intro hk; (with_reducible apply JK HM); exact rfl; exact rfl; (conv => lhs; whnf); exact sS; exact sS; exact zS; exact rfl; exact rfl; (show (_ : Nat) < 29; decide); exact rfl; exact hk.out) : P := h ⟨k⟩
theorem a15 {P Q : Prop} (k : Q) (h : Hk Q → P := by intro hk; (with_reducible apply Vj); exact rfl; exact wS; exact sS; exact rfl; exact hk.out) : P := h ⟨k⟩
theorem a16 {P Q : Prop} (k : Q) (h : Hk Q → P := by intro hk; (with_reducible apply Js); exact rfl; (with_reducible exact aggR); exact sS; exact Cs.drop0 _ _; exact Cs.take29 _ _; exact hk.out) : P := h ⟨k⟩
theorem a17 {P Q : Prop} (k : Q) (h : Hk Q → P := by intro hk; (with_reducible apply Vj); exact rfl; exact xS; exact sS; exact rfl; exact hk.out) : P := h ⟨k⟩
theorem a18 {P Q : Prop} (k : Q) (h : Hk Q → P := by intro hk; (with_reducible apply Js); exact rfl; (with_reducible exact aggR); exact sS; exact Xs.drop0 _ _; exact Xs.take29 _ _; exact hk.out) : P := h ⟨k⟩
theorem a19 {P Q : Prop} (k : Q) (h : Hk Q → P := by intro hk; (with_reducible apply Zbe); exact rfl; exact aggR; exact sS; exact lS; exact hk.out) : P := h ⟨k⟩
theorem a20 {P Q : Prop} (k : Q) (h : Hk Q → P := by intro hk; (with_reducible apply Vj); exact rfl; exact bS3; exact sS; exact rfl; exact hk.out) : P := h ⟨k⟩
theorem a21 {P Q : Prop} (k : Q) (h : Hk Q → P := by intro hk; (with_reducible apply Js); exact rfl; (with_reducible exact aggAlt); exact sS; exact Rg.altDrop _; exact Rg.altTake _; exact hk.out) : P := h ⟨k⟩
theorem a22 {P Q : Prop} (k : Q) (h : Hk Q → P := by intro hk; (with_reducible apply Kn HM); exact rfl; exact rfl; exact rfl; (first | exact .z | exact .s .z); (first | exact .z | exact .s .z); exact aggR.size; exact Rg.cells_length _; exact lS; exact Rg.one1 _; exact rfl; exact rfl; exact hk.out) : P := h ⟨k⟩
theorem a23 {P Q : Prop} (k : Q) (h : Hk Q → P := by intro hk; (with_reducible apply Y6 HM); exact rfl; exact rfl; (with_reducible exact aggR); exact .z; exact .z; exact xc_take29; exact rfl; exact hk.out) : P := h ⟨k⟩
theorem a24 {P Q : Prop} (k : Q) (h : Hk Q → P := by intro hk; (with_reducible apply Ko); exact rfl; (first | (with_reducible exact oneInt)); exact sS; exact dS; exact hk.out) : P := h ⟨k⟩
theorem a25 {P Q : Prop} (k : Q) (h : Hk Q → P := by intro hk; (with_reducible apply Yr HM); exact rfl; exact rfl; exact oneStr; exact .z; (conv => lhs; whnf); exact rfl; exact hk.out) : P := h ⟨k⟩
theorem a26 {P Q : Prop} (k : Q) (h : Hk Q → P := by intro hk; (with_reducible apply Js); exact rfl; (first | (with_reducible exact aggParts)); exact sS; exact dS; exact tS; exact hk.out) : P := h ⟨k⟩
theorem a27 {P Q : Prop} (k : Q) (h : Hk Q → P := by intro hk; (with_reducible apply xget2 H); exact rfl; exact rfl; (with_reducible exact oneStr); exact HMk.out; exact rfl; exact hk.out) : P := h ⟨k⟩
theorem a28 {P Q : Prop} (k : Q) (h : Hk Q → P := by intro hk; (with_reducible apply VH H); exact rfl; exact rfl; exact oneStr; (intro X; exact .s .z); exact e8.out; exact rfl; exact hk.out) : P := h ⟨k⟩
theorem a29 {P Q : Prop} (k : Q) (h : Hk Q → P := by intro hk; (with_reducible apply KE hbx); exact rfl; exact rfl; exact rfl; exact rfl; exact hk.out) : P := h ⟨k⟩
theorem a30 {P Q : Prop} (k : Q) (h : Hk Q → P := by intro hk; (with_reducible apply VH H); exact rfl; exact rfl; exact oneStrs; (intro X; exact .s (.s .z)); exact d3; exact rfl; exact hk.out) : P := h ⟨k⟩
theorem a31 {P Q : Prop} (k : Q) (h : Hk Q → P := by intro hk; (with_reducible apply Yr HM); exact rfl; exact rfl; (first | (with_reducible exact oneU8) | (with_reducible exact oneBool)); (first | exact .z | exact .s .z | exact .s (.s .z)); exact rfl; exact rfl; exact hk.out) : P := h ⟨k⟩
theorem a32 {P Q : Prop} (k : Q) (h : Hk Q → P := by intro hk; (with_reducible apply Ul HM (v := .agg (xc (s.ahead s.r.px) b 0 false 0).toArray) (vs := xc (s.ahead s.r.px) b 0 false 0)); exact rfl; exact rfl; exact rfl; exact rfl; exact hk.out) : P := h ⟨k⟩
theorem a33 {P Q : Prop} (k : Q) (h : Hk Q → P := by intro hk; (with_reducible apply VH H); exact rfl; exact rfl; (with_reducible exact oneU8); (intro X; exact .s (.s .z)); exact rfl; exact rfl; exact hk.out) : P := h ⟨k⟩
theorem a34 {P Q : Prop} (k : Q) (h : Hk Q → P := by intro hk; (with_reducible apply jD (i := 1) (j := 3) tStr); exact rfl; exact rfl; exact rfl; exact rfl; exact rfl; (focus decide); (focus decide); exact rfl; exact hk.out) : P := h ⟨k⟩
theorem a35 {P Q : Prop} (k : Q) (h : Hk Q → P := by intro hk; (with_reducible apply ZdD (cs := suT.map fun t => Value.string ⟨t.toArray⟩) (e := 9) (k := 8) H); exact rfl; exact Zi3; (focus (go_simp; done)); exact rfl; exact hk.out) : P := h ⟨k⟩
theorem a36 {P Q : Prop} (k : Q) (h : Hk Q → P := by intro hk; (with_reducible apply ZgX HM); exact rfl; exact rfl; exact wS; exact HC.out _ _ rfl; exact rfl; exact rfl; exact hk.out) : P := h ⟨k⟩
theorem a37 {P Q : Prop} (k : Q) (h : Hk Q → P := by intro hk; (with_reducible apply V0 HM); exact rfl; exact rfl; (with_reducible exact aggR); exact HC.out; exact Cs.drop0 _ _; exact Cs.take29 _ _; exact rfl; exact hk.out) : P := h ⟨k⟩
theorem a38 {P Q : Prop} (k : Q) (h : Hk Q → P := by intro hk; (with_reducible apply YA HM); exact rfl; exact rfl; (first | (with_reducible exact oneInts) | (with_reducible exact oneU8s) | (with_reducible exact oneBool) | (with_reducible exact oneAsks)); exact sS; exact dS; exact rfl; exact hk.out) : P := h ⟨k⟩
theorem a39 {P Q : Prop} (k : Q) (h : Hk Q → P := by intro hk; (with_reducible apply Z8 HM); exact rfl; exact rfl; (conv => lhs; whnf); exact rfl; exact sS; exact vS; exact sS; (first | (with_reducible exact (oneInts).size) | (with_reducible exact (oneU8s).size) | (with_reducible exact (oneBool).size) | (with_reducible exact (oneAsks).size)); exact rfl; exact rfl; exact rfl; exact rfl; exact hk.out) : P := h ⟨k⟩
theorem a40 {P Q : Prop} (k : Q) (h : Hk Q → P := by intro hk; (with_reducible apply ZdD (cs := [Value.string ⟨([] : Tx).toArray⟩, .string ⟨([] : Tx).toArray⟩]) (e := 9) (k := 2) H); exact rfl; exact ZlQ; (focus (go_simp; done)); exact rfl; exact hk.out) : P := h ⟨k⟩
theorem a41 {P Q : Prop} (k : Q) (h : Hk Q → P := by intro hk; (with_reducible apply Ko); exact rfl; (first | (with_reducible exact oneStr)); exact sS; exact dS; exact hk.out) : P := h ⟨k⟩
theorem a42 {P Q : Prop} (k : Q) (h : Hk Q → P := by intro hk; (with_reducible apply YA HM); exact rfl; exact rfl; (first | (with_reducible exact oneInts) | (with_reducible exact oneU8s)); exact sS; exact dS; exact rfl; exact hk.out) : P := h ⟨k⟩
theorem a43 {P Q : Prop} (k : Q) (h : Hk Q → P := by intro hk; (with_reducible apply Z8 HM); exact rfl; exact rfl; (conv => lhs; whnf); exact rfl; exact sS; exact vS; exact sS; (first | (with_reducible exact (oneInts).size) | (with_reducible exact (oneU8s).size)); exact rfl; exact rfl; exact rfl; exact rfl; exact hk.out) : P := h ⟨k⟩
theorem a44 {P Q : Prop} (k : Q) (h : Hk Q → P := by intro hk; (with_reducible apply YC HM); exact rfl; (first | (with_reducible exact zeroParts)); exact rfl; exact hk.out) : P := h ⟨k⟩
theorem a45 {P Q : Prop} (k : Q) (h : Hk Q → P := by intro hk; (with_reducible apply YA HM); exact rfl; exact rfl; (first | (with_reducible exact oneInt)); exact sS; exact dS; exact rfl; exact hk.out) : P := h ⟨k⟩
theorem a46 {P Q : Prop} (k : Q) (h : Hk Q → P := by intro hk; (with_reducible apply Y6 HM); exact rfl; exact rfl; (first | (with_reducible exact aggParts)); exact sS; exact dS; exact tS; exact rfl; exact hk.out) : P := h ⟨k⟩
theorem a47 {P Q : Prop} (k : Q) (h : Hk Q → P := by intro hk; (with_reducible apply Z8 HM); exact rfl; exact rfl; (conv => lhs; whnf); exact rfl; exact sS; exact vS; exact sS; (first | (with_reducible exact (aggParts).size) | (with_reducible exact (oneInt).size)); exact rfl; exact rfl; exact rfl; exact rfl; exact hk.out) : P := h ⟨k⟩
theorem a48 {P Q : Prop} (k : Q) (h : Hk Q → P := by intro hk; (with_reducible apply YA HM); exact rfl; exact rfl; (first | (with_reducible exact oneU8s)); exact sS; exact dS; exact rfl; exact hk.out) : P := h ⟨k⟩
theorem a49 {P Q : Prop} (k : Q) (h : Hk Q → P := by intro hk; (with_reducible apply Z8 HM); exact rfl; exact rfl; (conv => lhs; whnf); exact rfl; exact sS; exact vS; exact sS; (first | (with_reducible exact (oneU8s).size)); exact rfl; exact rfl; exact rfl; exact rfl; exact hk.out) : P := h ⟨k⟩
theorem a50 {P Q : Prop} (k : Q) (h : Hk Q → P := by intro hk; (with_reducible apply Yc (cs := [.string ⟨p.toArray⟩]) (e := 9) (n := 1) HM); exact rfl; exact Zk2 _; (focus (go_simp; done)); exact rfl; exact hk.out) : P := h ⟨k⟩
theorem a51 {P Q : Prop} (k : Q) (h : Hk Q → P := by intro hk; (with_reducible apply VH H); exact rfl; exact rfl; exact oneStrs; (intro X; exact .s .z); exact d1; exact rfl; exact hk.out) : P := h ⟨k⟩
theorem a52 {P Q : Prop} (k : Q) (h : Hk Q → P := by intro hk; (with_reducible apply VH H); exact rfl; exact rfl; exact oneStrs; (intro X; exact .s .z); exact dA; exact rfl; exact hk.out) : P := h ⟨k⟩
theorem a53 {P Q : Prop} (k : Q) (h : Hk Q → P := by intro hk; (with_reducible apply ZdD (cs := strs8) (e := 9) (k := 8) H); exact rfl; exact ZlT; (focus (go_simp; done)); exact rfl; exact hk.out) : P := h ⟨k⟩
theorem a54 {P Q : Prop} (k : Q) (h : Hk Q → P := by intro hk; (with_reducible apply ZlS); exact rfl; exact xone; exact rfl; exact hk.out) : P := h ⟨k⟩
theorem a55 {P Q : Prop} (k : Q) (h : Hk Q → P := by intro hk; (with_reducible apply Yc (cs := [.int .i64 (1000000 + (a : Int) * 256 + (v : Int))]) (e := 3) (n := 1) HM); exact rfl; exact KZ (1000000 + (a : Int) * 256 + (v : Int)); (focus (go_simp; done)); exact rfl; exact hk.out) : P := h ⟨k⟩
theorem a56 {P Q : Prop} (k : Q) (h : Hk Q → P := by intro hk; (with_reducible apply YA HM); exact rfl; exact rfl; (first | (with_reducible exact oneInts) | (with_reducible exact oneU8s) | (with_reducible exact oneBool)); exact sS; exact dS; exact rfl; exact hk.out) : P := h ⟨k⟩
theorem a57 {P Q : Prop} (k : Q) (h : Hk Q → P := by intro hk; (with_reducible apply Z8 HM); exact rfl; exact rfl; (conv => lhs; whnf); exact rfl; exact sS; exact vS; exact sS; (first | (with_reducible exact (oneInts).size) | (with_reducible exact (oneU8s).size) | (with_reducible exact (oneBool).size)); exact rfl; exact rfl; exact rfl; exact rfl; exact hk.out) : P := h ⟨k⟩
theorem a58 {P Q : Prop} (k : Q) (h : Hk Q → P := by intro hk; (with_reducible apply Ul HM (v := .agg (xc s.tick b 0 false 0).toArray) (vs := xc s.tick b 0 false 0)); exact rfl; exact rfl; exact rfl; exact rfl; exact hk.out) : P := h ⟨k⟩
theorem a59 {P Q : Prop} (k : Q) (h : Hk Q → P := by intro hk; (with_reducible apply Vu); exact rfl; exact rfl; exact rfl; exact pidx5; exact rfl; exact hk.out) : P := h ⟨k⟩
theorem a60 {P Q : Prop} (k : Q) (h : Hk Q → P := by intro hk; (with_reducible apply Vu); exact rfl; exact rfl; exact rfl; exact pidx6; exact rfl; exact hk.out) : P := h ⟨k⟩
theorem a61 {P Q : Prop} (k : Q) (h : Hk Q → P := by intro hk; (with_reducible apply VH H); exact rfl; exact rfl; exact oneStrs; (intro X; exact .s (.s .z)); exact d1; exact rfl; exact hk.out) : P := h ⟨k⟩
theorem a62 {P Q : Prop} (k : Q) (h : Hk Q → P := by intro hk; (with_reducible apply xput2 H); exact rfl; exact rfl; exact rfl; exact hset; exact oneStr.size; exact rfl; exact rfl; exact hj2; exact rfl; exact hk.out) : P := h ⟨k⟩
theorem a63 {P Q : Prop} (k : Q) (h : Hk Q → P := by intro hk; (with_reducible apply VH H); exact rfl; exact rfl; exact oneStrs; (intro X; exact .s (.s (.s .z))); exact d0; exact rfl; exact hk.out) : P := h ⟨k⟩
theorem a64 {P Q : Prop} (k : Q) (h : Hk Q → P := by intro hk; (with_reducible apply VH H); exact rfl; exact rfl; exact oneStrs; (intro X; exact .s .z); exact dD; exact rfl; exact hk.out) : P := h ⟨k⟩
theorem a65 {P Q : Prop} (k : Q) (h : Hk Q → P := by intro hk; (with_reducible apply Yc (cs := [.int .i64 (a : Int)]) (e := 3) (n := 1) HM); exact rfl; exact KZ (a : Int); (focus (go_simp; done)); exact rfl; exact hk.out) : P := h ⟨k⟩
theorem a66 {P Q : Prop} (k : Q) (h : Hk Q → P := by intro hk; (with_reducible apply Yr HM); exact rfl; exact rfl; (with_reducible exact oneU8); exact .s .z; exact Y4 m a HA.out; exact rfl; exact hk.out) : P := h ⟨k⟩
theorem a67 {P Q : Prop} (k : Q) (h : Hk Q → P := by intro hk; (with_reducible apply Yc (cs := [.int .i64 (1000000000 + ((p : Int) * 64 + (t : Int)) * 256 + (v : Int))]) (e := 3) (n := 1) HM); exact rfl; exact KZ (1000000000 + ((p : Int) * 64 + (t : Int)) * 256 + (v : Int)); (focus (go_simp; done)); exact rfl; exact hk.out) : P := h ⟨k⟩
theorem a68 {P Q : Prop} (k : Q) (h : Hk Q → P := by intro hk; (with_reducible apply Yc (cs := [.int .i64 (100000000 + (p : Int) * 64 + (t : Int))]) (e := 3) (n := 1) HM); exact rfl; exact KZ (100000000 + (p : Int) * 64 + (t : Int)); (focus (go_simp; done)); exact rfl; exact hk.out) : P := h ⟨k⟩
theorem a69 {P Q : Prop} (k : Q) (h : Hk Q → P := by intro hk; (with_reducible apply Y6 HM); exact rfl; exact rfl; (first | (with_reducible exact aggPtrs)); exact sS; exact dS; exact tS; exact rfl; exact hk.out) : P := h ⟨k⟩
theorem a70 {P Q : Prop} (k : Q) (h : Hk Q → P := by intro hk; (with_reducible apply Z8 HM); exact rfl; exact rfl; (conv => lhs; whnf); exact rfl; exact sS; exact vS; exact sS; (first | (with_reducible exact (aggPtrs).size) | (with_reducible exact (onePtr).size)); exact rfl; exact rfl; exact rfl; exact rfl; exact hk.out) : P := h ⟨k⟩
theorem a71 {P Q : Prop} (k : Q) (h : Hk Q → P := by intro hk; (with_reducible apply Kn HM); exact rfl; exact rfl; exact rfl; (with_reducible exact .s .z); (with_reducible exact .s .z); exact aggR.size; exact Rg.cells_length _; exact lS; exact Rg.one1 _; exact rfl; exact rfl; exact hk.out) : P := h ⟨k⟩
theorem a72 {P Q : Prop} (k : Q) (h : Hk Q → P := by intro hk; (with_reducible apply Yr HM); exact rfl; exact rfl; (first | (with_reducible exact oneU8) | (with_reducible exact oneBool)); (first | exact .s (.s .z)); exact rfl; exact rfl; exact hk.out) : P := h ⟨k⟩
theorem a73 {P Q : Prop} (k : Q) (h : Hk Q → P := by intro hk; (with_reducible apply Yr HM); exact rfl; exact rfl; (with_reducible exact oneStr); (with_reducible exact .z); exact HMk.out; exact rfl; exact hk.out) : P := h ⟨k⟩
theorem b0 {P Q : Prop} (k : Q) (h : Hk Q → P := by intro hk; first | exact a0 hk.out | exact a8 hk.out) : P := h ⟨k⟩
theorem b1 {P Q : Prop} (k : Q) (h : Hk Q → P := by intro hk; first | exact a7 hk.out | exact a14 hk.out) : P := h ⟨k⟩
theorem b2 {P Q : Prop} (k : Q) (h : Hk Q → P := by intro hk; first | exact a42 hk.out | exact a66 hk.out) : P := h ⟨k⟩
theorem b3 {P Q : Prop} (k : Q) (h : Hk Q → P := by intro hk; first | exact a36 hk.out | exact a37 hk.out) : P := h ⟨k⟩
theorem b4 {P Q : Prop} (k : Q) (h : Hk Q → P := by intro hk; first | exact a0 hk.out | exact a44 hk.out) : P := h ⟨k⟩
theorem b5 {P Q : Prop} (k : Q) (h : Hk Q → P := by intro hk; first | exact a45 hk.out | exact a46 hk.out) : P := h ⟨k⟩
theorem b6 {P Q : Prop} (k : Q) (h : Hk Q → P := by intro hk; first | exact a3 hk.out | exact cG hk.out | exact a5 hk.out) : P := h ⟨k⟩
theorem b7 {P Q : Prop} (k : Q) (h : Hk Q → P := by intro hk; first | exact a0 hk.out | exact a9 hk.out) : P := h ⟨k⟩
theorem b8 {P Q : Prop} (k : Q) (h : Hk Q → P := by intro hk; first | exact a10 hk.out | exact a11 hk.out) : P := h ⟨k⟩
theorem b9 {P Q : Prop} (k : Q) (h : Hk Q → P := by intro hk; first | exact cG hk.out | exact a45 hk.out | exact a46 hk.out) : P := h ⟨k⟩
theorem b10 {P Q : Prop} (k : Q) (h : Hk Q → P := by intro hk; first | exact cP hk.out | exact a47 hk.out) : P := h ⟨k⟩
theorem b11 {P Q : Prop} (k : Q) (h : Hk Q → P := by intro hk; first | exact a56 hk.out | exact a66 hk.out) : P := h ⟨k⟩
theorem b12 {P Q : Prop} (k : Q) (h : Hk Q → P := by intro hk; first | exact a6 hk.out | exact a13 hk.out) : P := h ⟨k⟩
theorem b13 {P Q : Prop} (k : Q) (h : Hk Q → P := by intro hk; first | exact a6 hk.out | exact a31 hk.out) : P := h ⟨k⟩
theorem b14 {P Q : Prop} (k : Q) (h : Hk Q → P := by intro hk; first | exact a6 hk.out | exact a31 hk.out | exact a29 hk.out) : P := h ⟨k⟩
theorem b15 {P Q : Prop} (k : Q) (h : Hk Q → P := by intro hk; first | exact a72 hk.out | exact a23 hk.out) : P := h ⟨k⟩
theorem b16 {P Q : Prop} (k : Q) (h : Hk Q → P := by intro hk; first | exact a13 hk.out | exact a10 hk.out | exact a11 hk.out) : P := h ⟨k⟩
theorem b17 {P Q : Prop} (k : Q) (h : Hk Q → P := by intro hk; first | exact a29 hk.out | exact a6 hk.out | exact a13 hk.out) : P := h ⟨k⟩
theorem b18 {P Q : Prop} (k : Q) (h : Hk Q → P := by intro hk; first | exact a1 hk.out | exact a64 hk.out | exact a52 hk.out) : P := h ⟨k⟩
theorem b19 {P Q : Prop} (k : Q) (h : Hk Q → P := by intro hk; first | exact a1 hk.out | exact a52 hk.out | exact a64 hk.out) : P := h ⟨k⟩
theorem b20 {P Q : Prop} (k : Q) (h : Hk Q → P := by intro hk; first | exact a1 hk.out | exact a52 hk.out) : P := h ⟨k⟩
theorem b21 {P Q : Prop} (k : Q) (h : Hk Q → P := by intro hk; first | exact a28 hk.out | exact a1 hk.out) : P := h ⟨k⟩
abbrev CB (f : Nat) (xs : Array Value) (w : World) (r : Value) : Prop := Calls Tryz.prog f xs w fun e w' => e = .returned r ∧ Below w.heap.size w w'
abbrev CW (f : Nat) (xs : Array Value) (w : World) (r : Value) : Prop := Calls Tryz.prog f xs w fun e w' => e = .returned r ∧ w = w'
abbrev CX (f : Nat) (xs : Array Value) (w : World) (r : Value) (K : World → Prop) : Prop := Calls Tryz.prog f xs w fun e w' => e = .returned r ∧ K w'
theorem k1 {P : Prop} (h : P := by
 (refine zH HM ?_; (try simp only [Act.put, Ze, Zc, Zd]); repeat ((fail_if_success (with_reducible refine wpQuiet_nil ?_)); first | go_big_quiet_skip | (go_big_quiet_want; first | (refine a19 ?_; go_big_quiet_op; go_big_quiet_on) | (refine a20 ?_; go_big_quiet_op; go_big_quiet_on) | (refine a21 ?_; go_big_quiet_op; go_big_quiet_on) | (go_big_quiet_op; go_big_quiet_on) | (go_big_quiet_op; refine ⟨_, fun _ _ => rfl, ?_⟩; go_big_quiet_on))))
 refine wpQuiet_nil ?_
 intro w' HM'
 clear HM; have HM := HM'; clear HM'
 go_wp2_with fail
 go_ret
 exact ⟨rfl, Own.fin HM⟩) : P := h
theorem k3 {P : Prop} (h : P := by
 obtain ⟨c, hc⟩ : ∃ c, s.getD k 0 = c := ⟨_, rfl⟩
 have HC := Zb hc
 have HD : Hid (s.drop k = c :: s.drop (k + 1)) := by show _ = _; rw [← hc]; exact jC s k hlt
 have HT : Hid ((s.drop k).take (k + 1 - k) = [c]) := by show _ = _; rw [← hc]; exact yO s k hlt
 clear hc
 by_cases he : c = m
 ·have HE := Zb he
  have hq : ((c.toNat : Int) == M) = true := by rw [beq_iff_eq, he, hM.out]
  have HH : Hid (D ++ [p] ++ Yg m [] (s.drop (k + 1)) = Zl s m) := by
   show _ = _
   rw [← HP.out, HD.out, HE.out, Zde, List.append_assoc]; rfl
  clear he
  go_wp2_with (first | (refine J6 (s := s) (k := k) tStr rfl rfl rfl hlt rfl ?_; rw [HC.out]) | (refine a50 ?_; clear tg1; intro w' g1 HM'; clear HM; have HM := HM'; clear HM') | ((refine jA Tryz.underlying80 HI.out HZ0.out HZ1.out HZ2.out rfl (by decide) HM HR (List.sublist_cons_self _ _) rfl rfl rfl (Rd.ofWhole (HM.out.at_ .z) rfl) (by intro u hu; obtain rfl := List.mem_singleton.1 hu; rfl) (by have h := HDL.out; rw [strs_length]; simp only [List.length_cons, List.length_nil]; omega) rfl ?_); intro v' w' R' HR' HM'; clear HM HR; have HM := HM'; have HR := HR'; clear HM' HR'))
  go_roundw
  case rel =>
   refine ⟨k + 1, [], D ++ [p], _, _, by omega, by simp, by go_num, rfl, rfl, ?_, HH, ?_, HM⟩
   ·have h := HDL.out
    show _ ≤ _
    simp only [List.length_append, List.length_cons, List.length_nil]; omega
   ·show Y0 _ _ _ _
    have h := HR.out
    simpa [jF] using h
  case measure => simp [intOf]; omega
 ·have hq : ((c.toNat : Int) == M) = false := by
   rw [beq_eq_false_iff_ne, ← hM.out]
   intro h
   exact he (UInt8.toNat_inj.1 (by omega))
  have HH : Hid (D ++ Yg m (p ++ [c]) (s.drop (k + 1)) = Zl s m) := by
   show _ = _
   rw [← HP.out, HD.out, ZaF m c _ _ he]
  clear he
  go_wp2_with (first | (refine J6 (s := s) (k := k) tStr rfl rfl rfl hlt rfl ?_; rw [HC.out]) | (refine Ym (s := s) (i := k) (j := k + 1) (r := [c]) tStr rfl rfl rfl rfl rfl (by omega) (by omega) (by omega) HT.out rfl ?_) | ((with_reducible apply ZQ); exact rfl; exact rfl; exact rfl; (first | assumption | decide | ((try simp only [List.length_append, List.length_cons, List.length_nil]); omega)); exact rfl))
  go_roundw
  case rel =>
   refine ⟨k + 1, p ++ [c], D, _, _, by omega, ?_, by go_num, rfl, rfl, ?_, HH, HR, HM⟩
   ·simp only [List.length_append, List.length_cons, List.length_nil]; omega
   ·have h := HDL.out
    show _ ≤ _
    omega
  case measure => simp [intOf]; omega) : P := h
theorem k8 {P : Prop} (h : P := by
 have HM := Zb (Own.start w)
 go_enter Tryz.func43, Tryz.ntmps43
 go_wp2_with (first | (refine a0 ?_; clear HM; intro w' g' HM) | refine a13 ?_)
 go_ret
 exact ⟨rfl, Own.fin HM⟩) : P := h
theorem k9 {P : Prop} (h : P := by
 have e8 := Zb (nm8_cell j hlt)
 rw [ht8] at e8
 have H8 := Zb ht8
 have hlt' : (j : Int) < 8 := by omega
 clear ht8
 cases hq : (t8 == m)
 ·go_wp2_with (first | refine a28 ?_ | fail)
  go_roundw
  case rel => exact ⟨j + 1, y0, by omega, by go_num, rfl, Zb (by show cond (nm8 j == m) _ _ = _; rw [H8.out, hq]; exact hy0.out), H⟩
  case measure => simp [intOf]; omega
 ·go_wp2_with (first | refine a28 ?_ | fail)
  go_roundw
  case rel => exact ⟨j + 1, -1, by omega, by go_num, rfl, Zb (by show cond (nm8 j == m) _ _ = _; rw [H8.out, hq]; rfl), H⟩
  case measure => simp [intOf]; omega) : P := h
theorem k10 {P : Prop} (h : P := by
 obtain ⟨y, hy⟩ : ∃ y, sg q j = y := ⟨_, rfl⟩
 have d3 := HC3.out j hlt
 rw [hy] at d3
 by_cases hj2 : j < 2
 ·have hj3 : (j : Int) < 2 := by omega
  have hset := ZlR q j y hj2 hy
  go_wp2_with (first | refine a30 ?_ | (refine a62 ?_; clear H; intro w' H) | fail)
  go_roundw
  case rel => exact ⟨j + 1, by omega, by go_num, H⟩
  case measure => simp [intOf]; omega
 ·have hj3 : (2 : Int) ≤ (j : Int) := by omega
  rw [ZdE q j hj2 0 (by decide), ZdE q j hj2 1 (by decide)] at H
  go_wp2_with (first | refine a30 ?_ | fail)
  go_roundw
  case rel => exact ⟨j + 1, by omega, by go_num, H⟩
  case measure => simp [intOf]; omega) : P := h
theorem k11 {P : Prop} (h : P := by
 refine wpQuiet_nil ?_
 intro w' HM'
 clear HM; have HM := HM'; clear HM'
 go_wp2_with fail
 go_ret
 exact ⟨rfl, Own.fin HM⟩) : P := h
theorem k15 {P : Prop} (h : P := by
 rw [es5.out] at H
 go_upto_region 39 with (first | refine a1 ?_ | fail)
 go_upto_region 40 with (first | (go_at_call 49; (with_reducible refine (Y1 nmHL _ ue e e8 he1 he2 he3 he4 r3 hr3 H).mono ?_); clear H; rintro e w' ⟨rfl, H⟩) | fail)
 rw [es6.out] at H
 cases ag
 ·obtain rfl : (16 : Int) = k := hk
  go_wp2_with fail
  go_ret
  exact ⟨rfl, H⟩
 ·cases on
  ·obtain rfl : (16 : Int) = k := hk
   go_wp2_with fail
   go_ret
   exact ⟨rfl, H⟩
  ·obtain rfl : (21 : Int) = k := hk
   go_upto_region 45 with (first | refine a1 ?_ | (refine a2 ?_; clear H; intro w' H) | (go_at_call 35; (with_reducible refine (zh s6.r.pc g pc8 hg _).mono ?_); rintro e w' ⟨rfl, rfl⟩) | fail)
   rw [es7.out] at H
   go_wp2_with fail
   go_ret
   exact ⟨rfl, H⟩) : P := h
theorem k16 {P : Prop} (h : P := by
 go_roundw
 case rel => exact ⟨j + 1, by omega, by go_num, H⟩
 case measure => simp [intOf]; omega) : P := h
theorem k20 {P : Prop} (h : P := by
 go_upto_region 43 with (first | refine a1 ?_ | (refine a2 ?_; clear H; intro w' H) | (go_at_call 35; (with_reducible refine (zh s6.r.pc g pc8 hg _).mono ?_); rintro e w' ⟨rfl, rfl⟩) | fail)
 rw [es7.out] at H
 have c7 := pc7
 go_upto_region 45 with (first | refine a1 ?_ | (refine a2 ?_; clear H; intro w' H) | (go_at_call 35; (try rw [pc7]); (with_reducible refine (Z6 g gw g8 hgw2 _).mono ?_); rintro e w' ⟨rfl, rfl⟩) | fail)
 rw [es8.out] at H
 go_wp2_with fail
 go_ret
 exact ⟨rfl, H⟩) : P := h
theorem k29 {P : Prop} (h : P := by
 rw [Nat.sub_self, Nat.add_zero] at H
 go_wp2_with (first | ((with_reducible apply VH H); exact rfl; exact rfl; exact oneStrs; (intro X; exact .s (.s .z)); exact dA; exact rfl) | (go_at_call 89; (with_reducible refine (HDY.out _ _ _ _ _ _ _ _ _ H).mono ?_); clear H; rintro e w' ⟨rfl, H⟩) | fail)
 go_ret
 exact ⟨rfl, Zb H.out.drop3⟩) : P := h
theorem k33 {P : Prop} (h : P := by
 revert c0 hy y; rcases hq with rfl | rfl | rfl <;> decide +kernel) : P := h
theorem k43 {P : Prop} (h : P := by
 rintro e w' ⟨v, rfl, ht, hb⟩
 obtain ⟨g, cap, rfl, hc⟩ := Zfh (n := 8) ht (by decide +kernel)
 exact ⟨g, cap, rfl, hc, hb⟩) : P := h
theorem k46 {P : Prop} (h : P := by
 rw [← hC]
 have := ZS f 1 ((f : Int) % 2) (by omega)
 exact this) : P := h
theorem k50 {P : Prop} (h : P := by
 go_wp2_with (first | refine a28 ?_ | fail)
 go_roundw
 case rel => exact ⟨j + 1, by omega, by go_num, rfl, H⟩
 case measure => simp [intOf]; omega) : P := h
theorem k55 {P : Prop} (h : P := by
 simp only [Bool.or_eq_true, Bool.and_eq_true, Nat.beq_eq, Bool.not_eq_true'] at h
 exact h) : P := h
theorem k58 {P : Prop} (h : P := by
 obtain ⟨a, f, b', c, d, e, h, l, x0, x1, x2, x3, x4, x5, x6, x7, ix, iy, sp, pc, wz, i, r, im, px, q1, q2, ht, dl⟩ := r
 kernel_rfl) : P := h
theorem k59 {P : Prop} (h : P := by
 rw [HR.out] at h1
 have h2 : 2 ^ k ≤ 2 ^ 7 := Nat.pow_le_pow_right (by omega) (by omega)
 omega) : P := h
theorem k62 {P : Prop} (h : P := by
 go_ret
 refine ⟨YN ?_, rfl⟩
 rw [← HS.out]
 simp (disch := exact bS) only [u8_or, Int.toNat_natCast]
 rfl) : P := h
theorem k66 {P : Prop} (h : P := by
 simp (disch := exact bS) only [u8_and, u8_or, u8_xor, Int.reduceToNat, Int.toNat_natCast]
 rfl) : P := h
theorem k75 {P : Prop} (h : P := by
 have HP := Zb (HDP.out j hlt)
 rw [hy'] at HP
 rw [show n + (T.length - j) = (n + (T.length - (j + 1))) + 1 by omega] at H
 go_wp2_with (first | refine a30 ?_ | (go_at_call 87; (with_reducible refine (HP.out _ _ _ _ _ _ H).mono ?_); clear H; rintro e w' ⟨rfl, H⟩) | fail)
 exact k16) : P := h
def ZL (w : World) (g : Nat) (t : TypeId) (cs : List Value) : Prop := w.heap[g]? = some (.cells cs.toArray t (0, 0))
section
variable {w w' : World} {g : Nat} {t : TypeId} {cs : List Value}
theorem ZL.inside (h : ZL w g t cs) : g < w.heap.size := by
 rcases Nat.lt_or_ge g w.heap.size with hlt | hge
 ·exact hlt
 ·unfold ZL at h; rw [Array.getElem?_eq_none hge] at h; cases h
theorem ZL.at_ (h : ZL w g t cs) (i : Nat) : w.cell? ⟨g, i, none⟩ = cs[i]? := by
 rw [cell_of_row w g i cs.toArray t (0, 0) h]; simp
theorem ZL.free (h : ZL w g t cs) (i : Nat) : w.frozen? ⟨g, i, none⟩ = false := by
 unfold ZL at h; simp [World.frozen?, h]
theorem ZL.fresh (w : World) (t : TypeId) (cs : List Value) : ZL (w.alloc (.cells cs.toArray t)) w.heap.size t cs := heap_alloc_new w _
theorem ZL.beside (h : ZL w g t cs) (o : Obj) : ZL (w.alloc o) g t cs := (Below.heap_alloc w o g h.inside).trans h
theorem ZL.put (h : ZL w g t cs) (i : Nat) (u : Value) : ZL (w.setCell ⟨g, i, none⟩ u) g t (cs.set i u) := by
 unfold ZL at h ⊢
 simp [World.setCell, Array.getElem?_modify, h]
theorem ZL.under {B : Nat} (h : ZL w g t cs) (hb : Below B w w') (hg : g < B) : ZL w' g t cs := (hb.block g hg).trans h
theorem ZL.grown {row : Option Nat} (h : ZL w g t cs) (hb : w.grownBy w' row) (hg : some g ≠ row) : ZL w' g t cs := (hb.block g h.inside hg).trans h
theorem ZL.apart {g' : Nat} {t' : TypeId} {cs' : List Value} (h : ZL w g t cs) (h' : ZL w g' t' cs') (hne : t ≠ t') : g ≠ g' := by
 rintro rfl
 unfold ZL at h h'
 rw [h] at h'
 injection h' with h'
 injection h' with _ ht
 exact hne ht
end
def u8s (zs : List Int) : List Value := zs.map (Value.int .u8)
@[simp] theorem u8s_length (zs : List Int) : (u8s zs).length = zs.length := by simp [u8s]
theorem Zbd (zs : List Int) (i : Nat) : (u8s zs)[i]? = zs[i]?.map (Value.int .u8) := by simp [u8s]
def JH (w : World) (B : Nat) (a : Option Addr) (n : Nat) (zs : List Int) : Prop :=
 zs.length = n ∧ (0 < n → ∃ g o, a = some ⟨g, o, none⟩ ∧ g < B ∧ ∀ i, i < n → w.cell? ⟨g, o + i, none⟩ = some (.int .u8 (zs.getD i 0)))
section
variable {w w' : World} {B B' n : Nat} {a : Option Addr} {zs : List Int}
theorem JH.keep (h : JH w B a n zs) (hk : ∀ p : Addr, p.block < B → w'.cell? p = w.cell? p) : JH w' B a n zs :=
 ⟨h.1, fun hn => by
  obtain ⟨g, o, e, hg, hc⟩ := h.2 hn
  exact ⟨g, o, e, hg, fun i hi => (hk _ hg).trans (hc i hi)⟩⟩
theorem JH.more (h : JH w B a n zs) (hB : B ≤ B') : JH w B' a n zs :=
 ⟨h.1, fun hn => by
  obtain ⟨g, o, e, hg, hc⟩ := h.2 hn
  exact ⟨g, o, e, by omega, hc⟩⟩
theorem JH.under (h : JH w B a n zs) (hb : Below B w w') : JH w' B a n zs := h.keep fun _ hp => hb.cell hp
theorem JH.take (h : JH w B a n zs) (m : Nat) (hm : m ≤ n) : JH w B a m (zs.take m) := by
 refine ⟨by rw [List.length_take, h.1]; omega, fun hp => ?_⟩
 obtain ⟨g, o, e, hg, hc⟩ := h.2 (by omega)
 refine ⟨g, o, e, hg, fun i hi => ?_⟩
 rw [hc i (by omega)]
 simp [List.getD_eq_getElem?_getD, hi]
theorem JH.ofWhole {g : Nat} {t : TypeId} (h : ZL w g t (u8s zs)) : JH w w.heap.size (some ⟨g, 0, none⟩) zs.length zs := by
 refine ⟨rfl, fun _ => ⟨g, 0, rfl, h.inside, fun i hi => ?_⟩⟩
 rw [Nat.zero_add, h.at_ i, Zbd]
 simp [List.getD_eq_getElem?_getD, hi]
theorem JH.cells (h : JH w B a n zs) (hn : 0 < n) : ∃ ad, a = some ad ∧ ∀ j v, (u8s zs)[j]? = some v → w.cell? (ad.add j) = some v := by
 obtain ⟨g, o, e, hg, hc⟩ := h.2 hn
 refine ⟨_, e, fun j v hv => ?_⟩
 rw [Zbd] at hv
 have hj : j < zs.length := by
  rcases Nat.lt_or_ge j zs.length with hlt | hge
  ·exact hlt
  ·rw [List.getElem?_eq_none hge] at hv; cases hv
 have ha : (⟨g, o, none⟩ : Addr).add j = ⟨g, o + j, none⟩ := by unfold Addr.add; split <;> simp_all
 rw [ha, hc j (by rw [← h.1]; exact hj)]
 simp [hj] at hv
 simp [List.getD_eq_getElem?_getD, hj, hv]
end
theorem KJ (w : World) (g : Nat) (cs : Array Value) : w.grownBy (w.setRow g cs) (some g) :=
 ⟨rfl, rfl, rfl, by simp [World.setRow], fun k _ hne => setRow_other w g k cs (fun e => hne (by rw [e]))⟩
theorem zF {w w' : World} {B g : Nat} (h : w.grownBy w' (some g)) (hg : B ≤ g) (hB : B ≤ w.heap.size) : Below B w w' :=
 (Below.refl B w).grown h hB (fun k hk => by cases hk; exact hg)
theorem Km {P : Program} (w : World) (g i : Nat) (ty : TypeId) (u v : Value) (hc : w.cell? ⟨g, i, none⟩ = some u) (hf : w.frozen? ⟨g, i, none⟩ = false)
  (hi : (P.info? ty).map (·.size) = some 1) (h1 : v.oneCell' = true) : (storeVar ty ⟨g, i, none⟩ v).run P w = .ok () (w.setCell ⟨g, i, none⟩ v) := by
 have hcs : v.cells = #[v] := by cases v <;> first | rfl | cases h1
 have hst : (store ((⟨g, i, none⟩ : Addr).add 0) v).run P w = .ok () (w.setCell ⟨g, i, none⟩ v) := by
  have hadd : (⟨g, i, none⟩ : Addr).add 0 = ⟨g, i, none⟩ := by unfold Addr.add; split <;> simp_all
  rw [hadd, run_store P w _ v _ h1, hc]
  simp [hf]
 cases hq : P.info? ty with
 | none => simp [hq] at hi
 | some q =>
  have hs : q.size = 1 := by simpa [hq] using hi
  simp [storeVar, sizeOf, typeInfo, hq, hcs, hs, storeCells, hst]
def zE (zs : List Int) : List Value := zs.map (Value.int .i64)
@[simp] theorem i64s_length (zs : List Int) : (zE zs).length = zs.length := by simp [zE]
structure Own (W0 w : World) (l : List (Nat × TypeId × List Value)) : Prop where
 below : Below W0.heap.size W0 w
 whole : ∀ e ∈ l, W0.heap.size ≤ e.1 ∧ ZL w e.1 e.2.1 e.2.2
 apart : l.Pairwise fun e f => e.1 ≠ f.1
theorem Own.start (W : World) : Own W W [] := ⟨Below.refl _ _, by simp, .nil⟩
section
variable {W0 w w' : World} {l l' : List (Nat × TypeId × List Value)} {g : Nat} {t : TypeId} {cs cs' : List Value}
theorem Own.new (h : Own W0 w l) (t : TypeId) (cs : List Value) : Own W0 (w.alloc (.cells cs.toArray t)) ((w.heap.size, t, cs) :: l) := by
 refine ⟨h.below.alloc h.below.size _, ?_, ?_⟩
 ·intro e he
  rcases List.mem_cons.1 he with rfl | he
  ·exact ⟨h.below.size, ZL.fresh w t cs⟩
  ·exact ⟨(h.whole e he).1, (h.whole e he).2.beside _⟩
 ·refine .cons (fun e he => ?_) h.apart
  have := (h.whole e he).2.inside
  show w.heap.size ≠ e.1
  omega
theorem Own.call (h : Own W0 w l) (hb : Below w.heap.size w w') : Own W0 w' l :=
 ⟨h.below.trans (hb.mono h.below.size), fun e he => ⟨(h.whole e he).1, (h.whole e he).2.under hb (h.whole e he).2.inside⟩, h.apart⟩
theorem Own.drew (h : Own W0 w l) : Own W0 w.drew l := ⟨h.below.drew, fun e he => ⟨(h.whole e he).1, (h.whole e he).2⟩, h.apart⟩
theorem Own.forget {e : Nat × TypeId × List Value} (h : Own W0 w (e :: l)) : Own W0 w l := ⟨h.below, fun e he => h.whole e (by simp [he]), h.apart.of_cons⟩
end
inductive Sel : List (Nat × TypeId × List Value) → Nat → TypeId → List Value → Prop
 | z {l : List (Nat × TypeId × List Value)} {g : Nat} {t : TypeId} {cs : List Value} : Sel ((g, t, cs) :: l) g t cs
 | s {x : Nat × TypeId × List Value} {l : List (Nat × TypeId × List Value)} {g : Nat} {t : TypeId} {cs : List Value} : Sel l g t cs → Sel (x :: l) g t cs
inductive Put : List (Nat × TypeId × List Value) → Nat → TypeId → List Value → List Value → List (Nat × TypeId × List Value) → Prop
 | z {l : List (Nat × TypeId × List Value)} {g : Nat} {t : TypeId} {cs cs' : List Value} : Put ((g, t, cs) :: l) g t cs cs' ((g, t, cs') :: l)
 | s {x : Nat × TypeId × List Value} {l : List (Nat × TypeId × List Value)} {g : Nat} {t : TypeId} {cs cs' : List Value} {l' : List (Nat × TypeId × List Value)} : Put l g t cs cs' l' → Put (x :: l) g t cs cs' (x :: l')
inductive Drop : List Value → Nat → List Value → Prop
 | z {l : List Value} : Drop l 0 l
 | s {x : Value} {l : List Value} {n : Nat} {r : List Value} : Drop l n r → Drop (x :: l) (n + 1) r
inductive Take : List Value → Nat → List Value → Prop
 | z {l : List Value} : Take l 0 []
 | s {x : Value} {l : List Value} {n : Nat} {r : List Value} : Take l n r → Take (x :: l) (n + 1) (x :: r)
inductive Over : List Value → Nat → List Value → List Value → Prop
 | z {l : List Value} : Over l 0 [] l
 | p {x v : Value} {l vs r : List Value} : Over l 0 vs r → Over (x :: l) 0 (v :: vs) (v :: r)
 | s {x : Value} {l : List Value} {n : Nat} {vs r : List Value} : Over l n vs r → Over (x :: l) (n + 1) vs (x :: r)
section
variable {W0 w w' : World} {l l' : List (Nat × TypeId × List Value)} {g : Nat} {t : TypeId} {cs cs' : List Value}
theorem Sel.mem (h : Sel l g t cs) : (g, t, cs) ∈ l := by induction h <;> simp_all
theorem Put.mem (h : Put l g t cs cs' l') : (g, t, cs) ∈ l := by induction h <;> simp_all
theorem Put.mem' (h : Put l g t cs cs' l') : (g, t, cs') ∈ l' := by induction h <;> simp_all
theorem Put.all (h : Put l g t cs cs' l') : ∀ e ∈ l', e = (g, t, cs') ∨ e ∈ l := by
 induction h with
 | z => intro e he; rcases List.mem_cons.1 he with h | h <;> simp [h]
 | s _ ih =>
  intro e he
  rcases List.mem_cons.1 he with h | h
  ·simp [h]
  ·rcases ih e h with h | h <;> simp [h]
theorem Put.numbers (h : Put l g t cs cs' l') : l'.map (·.1) = l.map (·.1) := by induction h <;> simp_all
theorem Drop.eq {l r : List Value} {n : Nat} (h : Drop l n r) : l.drop n = r := by induction h <;> simp_all
theorem Take.eq {l r : List Value} {n : Nat} (h : Take l n r) : l.take n = r := by induction h <;> simp_all
theorem Take.len {l r : List Value} {n : Nat} (h : Take l n r) : r.length = n := by induction h <;> simp_all
theorem Over.eq {l vs r : List Value} {n : Nat} (h : Over l n vs r) : n + vs.length ≤ l.length ∧ l.take n ++ vs ++ l.drop (n + vs.length) = r := by
 induction h with
 | z => simp
 | p _ ih => simp only [Nat.zero_add, List.take_zero, List.nil_append, List.length_cons, List.drop_succ_cons] at ih ⊢; exact ⟨by omega, by simp [ih.2]⟩
 | s _ ih =>
  refine ⟨by simp only [List.length_cons]; omega, ?_⟩
  rename_i n vs r _
  rw [show n + 1 + vs.length = (n + vs.length) + 1 by omega, List.drop_succ_cons, List.take_succ_cons, List.cons_append, List.cons_append, ih.2]
theorem Jf (l l' : List (Nat × TypeId × List Value)) (h : l'.map (·.1) = l.map (·.1)) (ha : l.Pairwise fun e f => e.1 ≠ f.1) : l'.Pairwise fun e f => e.1 ≠ f.1 := by
 have e1 : (l.map (·.1)).Pairwise (· ≠ ·) := List.pairwise_map.2 ha
 rw [← h] at e1
 exact List.pairwise_map.1 e1
theorem Own.of_row (h : Own W0 w l) (hp : Put l g t cs cs' l') : Own W0 (w.setRow g cs'.toArray) l' := by
 have hg := h.whole _ hp.mem
 refine ⟨h.below.trans (zF (KJ w g _) hg.1 h.below.size), ?_, Jf l l' hp.numbers h.apart⟩
 intro e he
 have hne : ∀ e ∈ l, e.1 = g → e = (g, t, cs) := by
  intro e he hEq
  rcases List.pairwise_iff_forall_sublist.1 h.apart with _
  by_cases hx : e = (g, t, cs)
  ·exact hx
  ·exfalso
   obtain ⟨i, hi, hie⟩ := List.getElem_of_mem he
   obtain ⟨j, hj, hje⟩ := List.getElem_of_mem hp.mem
   have hij : i ≠ j := by rintro rfl; rw [hie] at hje; exact hx hje
   have hpw := List.pairwise_iff_getElem.1 h.apart
   rcases Nat.lt_or_gt_of_ne hij with hlt | hgt
   ·have := hpw i j hi hj hlt; rw [hie, hje] at this; exact this hEq
   ·have := hpw j i hj hi hgt; rw [hie, hje] at this; exact this hEq.symm
 by_cases hx : e.1 = g
 ·-- the block itself: the cells are the new ones
  rcases hp.all e he with rfl | hl
  ·exact ⟨hg.1, setRow_heap w g _ _ t _ hg.2⟩
  ·have e2 := hne e hl hx
   subst e2
   have hpw' := Jf l l' hp.numbers h.apart
   -- both (g, t, cs) and (g, t, cs') would be in l'
   have hin := hp.mem'
   by_cases hs : cs = cs'
   ·subst hs; exact ⟨hg.1, setRow_heap w g _ _ t _ hg.2⟩
   ·exfalso
    obtain ⟨i, hi, hie⟩ := List.getElem_of_mem he
    obtain ⟨j, hj, hje⟩ := List.getElem_of_mem hin
    have hij : i ≠ j := by rintro rfl; rw [hie] at hje; injection hje with _ h2; injection h2 with _ h3; exact hs h3
    have hpw := List.pairwise_iff_getElem.1 hpw'
    rcases Nat.lt_or_gt_of_ne hij with hlt | hgt
    ·have := hpw i j hi hj hlt; rw [hie, hje] at this; exact this rfl
    ·have := hpw j i hj hi hgt; rw [hie, hje] at this; exact this rfl
 ·rcases hp.all e he with rfl | hl
  ·exact absurd rfl hx
  ·exact ⟨(h.whole e hl).1, (h.whole e hl).2.grown (KJ w g _) (fun k => hx (by cases k; rfl))⟩
theorem Put.get (h : Put l g t cs cs' l') : Sel l g t cs := by
 induction h with
 | z => exact .z
 | s _ ih => exact .s ih
theorem zG (w : World) (g i : Nat) (t : TypeId) (cs : List Value) (v : Value) (hg : ZL w g t cs) : w.setCell ⟨g, i, none⟩ v = w.setRow g (cs.set i v).toArray := by
 rw [setCell_eq_setRow w g i cs.toArray t (0, 0) v hg, List.setIfInBounds_toArray]
theorem Own.of_cell (h : Own W0 w l) {v : Value} (i : Nat) (hp : Put l g t cs (cs.set i v) l') : Own W0 (w.setCell ⟨g, i, none⟩ v) l' := by
 rw [zG w g i t cs v (h.whole _ hp.mem).2]
 exact h.of_row hp
theorem Own.at_ (h : Own W0 w l) (hs : Sel l g t cs) : ZL w g t cs := (h.whole _ hs.mem).2
end
def Agg (P : Program) (ty : TypeId) (n : Nat) : Prop := (∃ d, P.underlying ty = some d ∧ d.isRow = true) ∧ (P.info? ty).map (·.size) = some n
def One (P : Program) (ty : TypeId) : Prop := (∃ d, P.underlying ty = some d ∧ d.isRow = false) ∧ (P.info? ty).map (·.size) = some 1
def j5 (P : Program) (ty : TypeId) (n : Nat) : Prop := (P.info? ty).map (·.size) = some n
def ZgV (P : Program) (ty : TypeId) (vs : List Value) : Prop := ∃ z, (∀ w, (zeroValue ty).run P w = .ok z w) ∧ z.cells = vs.toArray
theorem Agg.size {P : Program} {ty : TypeId} {n : Nat} (h : Agg P ty n) : j5 P ty n := h.2
theorem One.size {P : Program} {ty : TypeId} (h : One P ty) : j5 P ty 1 := h.2
section
variable {P : Program} {W0 w : World} {l l' : List (Nat × TypeId × List Value)} {ops : Array Oper} {rest : List Oper} {o : Oper} {a : Act} {Q : Exit → Act → World → Prop}
theorem Zp (hw : Region.wanted o (yielded ops a.tmps) = true) (h : ∀ K : Act → World → Prop, (∀ a w, wpList P ops Q rest a w → K a w) → o.wp P a w K Q) : wpList P ops Q (o :: rest) a w :=
 wpList_step fun K hK => by rw [if_pos hw]; exact h K hK
theorem ZG (w : World) (g i : Nat) (ty : TypeId) (v : Value) (hc : w.cell? ⟨g, i, none⟩ = some v) (h : One P ty) : (loadVar ty ⟨g, i, none⟩).run P w = .ok v w := by
 obtain ⟨⟨d, hu, hd⟩, _⟩ := h
 have hagg : (isAgg ty).run P w = .ok false w := by
  unfold isAgg
  rw [Sem.run_bind, run_underlying hu w]
  cases d <;> simp_all [TypeDesc.isRow]
 simp [loadVar, Sem.run_bind, hagg, hc]
theorem Ul {ty : TypeId} {x : Operand} {v : Value} {vs : List Value} (HM : Hid (Own W0 w l)) (ho : o.op = .box ty x) (hy : a.eval x = v) (hv : v.cells = vs.toArray) (hw : Region.wanted o (yielded ops a.tmps) = true)
  (h : ∀ w' g, Hid (Own W0 w' ((g, ty, vs) :: l)) → wpList P ops Q rest (a.put o.dst (.pointer (some ⟨g, 0, none⟩))) w') : wpList P ops Q (o :: rest) a w := by
 refine Zp hw fun K hK => ?_
 unfold Oper.wp execOp
 simp only [ho, Instr.box, newVar, newRow, newObj, hy, hv]
 exact hK _ _ (h _ _ (HM.out.new ty vs))
theorem YC {ty : TypeId} {vs : List Value} (HM : Hid (Own W0 w l)) (ho : o.op = .alloc ty) (hz : ZgV P ty vs) (hw : Region.wanted o (yielded ops a.tmps) = true)
  (h : ∀ w' g, Hid (Own W0 w' ((g, ty, vs) :: l)) → wpList P ops Q rest (a.put o.dst (.pointer (some ⟨g, 0, none⟩))) w') : wpList P ops Q (o :: rest) a w := by
 refine Zp hw fun K hK => ?_
 obtain ⟨z, hz, hv⟩ := hz
 unfold Oper.wp execOp
 simp only [ho, Instr.alloc, Sem.run_bind, hz, Result.andThen_ok, newVar, newRow, newObj, hv]
 exact hK _ _ (h _ _ (HM.out.new ty vs))
theorem Y6 {ty t : TypeId} {x : Operand} {g off n : Nat} {cs r vs : List Value} (HM : Hid (Own W0 w l)) (ho : o.op = .load ty x) (hx : a.eval x = .pointer (some ⟨g, off, none⟩)) (hty : Agg P ty n)
  (hs : Sel l g t cs) (hd : Drop cs off r) (ht : Take r n vs) (hw : Region.wanted o (yielded ops a.tmps) = true)
  (h : wpList P ops Q rest (a.put o.dst (.agg vs.toArray)) w) : wpList P ops Q (o :: rest) a w := by
 refine Zp hw fun K hK => ?_
 obtain ⟨⟨d, hu, hr⟩, hsz⟩ := hty
 refine wp_load_mid ty x ho g off hx vs d ?_ hu hr (by rw [ht.len]; exact hsz) (hK _ _ h)
 intro j v hv
 rw [(HM.out.at_ hs).at_]
 have e1 := hd.eq
 have e2 := ht.eq
 subst e1 e2
 rw [List.getElem?_take] at hv
 split at hv
 ·rwa [List.getElem?_drop] at hv
 ·cases hv
theorem YA {ty t : TypeId} {x : Operand} {g off : Nat} {cs r : List Value} {v : Value} (HM : Hid (Own W0 w l)) (ho : o.op = .load ty x) (hx : a.eval x = .pointer (some ⟨g, off, none⟩)) (hty : One P ty)
  (hs : Sel l g t cs) (hd : Drop cs off (v :: r)) (hw : Region.wanted o (yielded ops a.tmps) = true)
  (h : wpList P ops Q rest (a.put o.dst v) w) : wpList P ops Q (o :: rest) a w := by
 refine Zp hw fun K hK => ?_
 have hc : w.cell? ⟨g, off, none⟩ = some v := by
  rw [(HM.out.at_ hs).at_]
  have e1 := hd.eq
  have : (cs.drop off)[0]? = some v := by rw [e1]; rfl
  simpa using this
 unfold Oper.wp execOp
 simp only [ho, hx, Instr.loadAt, Instr.sureAddr, Sem.run_bind, Sem.run_pure, Result.andThen_ok, ZG w g off ty v hc hty]
 exact hK _ _ h
theorem Z8 {ty t : TypeId} {x y : Operand} {v : Value} {g off n : Nat} {cs cs' vs : List Value} (HM : Hid (Own W0 w l)) (ho : o.op = .store ty x y) (hx : a.eval x = .pointer (some ⟨g, off, none⟩)) (hy : a.eval y = v) (hv : v.cells = vs.toArray)
  (_hsel : Sel l g t cs) (hov : Over cs off vs cs') (hs : Put l g t cs cs' l') (hty : j5 P ty n) (hn : vs.length = n) (h1 : vs.all (·.oneCell') = true) (hw : Region.wanted o (yielded ops a.tmps) = true)
  (hd : o.dst = none) (h : ∀ w', Hid (Own W0 w' l') → wpList P ops Q rest a w') : wpList P ops Q (o :: rest) a w := by
 have h : ∀ w', Hid (Own W0 w' l') → wpList P ops Q rest (a.put o.dst undef) w' := by rw [hd]; exact h
 refine Zp hw fun K hK => ?_
 obtain ⟨ho1, ho2⟩ := hov.eq
 have hwh := (HM.out.whole _ hs.mem).2
 have hrun := run_storeCells_at P g off t vs 0 cs.toArray w hwh (by simpa using ho1) (List.all_eq_true.1 h1)
 simp only [Nat.add_zero, ho2] at hrun
 have hrun' : (storeVar ty ⟨g, off, none⟩ (a.eval y)).run P w = .ok () (w.setRow g cs'.toArray) := by
  unfold j5 at hty
  cases hq : P.info? ty with
  | none => simp [hq] at hty
  | some i =>
   have hi : i.size = n := by simpa [hq] using hty
   simp [storeVar, sizeOf, typeInfo, hq, hy, hv, hi, hn, hrun]
 unfold Oper.wp execOp
 simp only [ho, hx, Instr.storeAt, Instr.sureAddr, Sem.run_bind, Sem.run_pure, Result.andThen_ok, hrun']
 exact hK _ _ (h _ (HM.out.of_row hs))
theorem JK {ty t : TypeId} {x y : Operand} {v : Value} {g i : Nat} {cs : List Value} (HM : Hid (Own W0 w l)) (ho : o.op = .store ty x y) (hx : a.eval x = .pointer (some ⟨g, i, none⟩)) (hy : a.eval y = v)
  (hsel : Sel l g t cs) (hs : Put l g t cs (cs.set i v) l') (hty : j5 P ty 1) (h1 : v.oneCell' = true) (hw : Region.wanted o (yielded ops a.tmps) = true) (hi : i < cs.length)
  (hd : o.dst = none) (h : ∀ w', Hid (Own W0 w' l') → wpList P ops Q rest a w') : wpList P ops Q (o :: rest) a w := by
 have h : ∀ w', Hid (Own W0 w' l') → wpList P ops Q rest (a.put o.dst undef) w' := by rw [hd]; exact h
 refine Zp hw fun K hK => ?_
 have hg := (HM.out.whole _ hsel.mem).2
 have hrun := Km (P := P) w g i ty cs[i] v (by rw [hg.at_ i]; simp [hi]) (hg.free i) hty h1
 unfold Oper.wp execOp
 simp only [ho, hx, hy, Instr.storeAt, Instr.sureAddr, Sem.run_bind, Sem.run_pure, Result.andThen_ok, hrun]
 exact hK _ _ (h _ (HM.out.of_cell i hs))
theorem ZgW {ty t : TypeId} {x : Operand} {g n : Nat} {cs : List Value} (HM : Hid (Own W0 w l)) (ho : o.op = .load ty x) (hx : a.eval x = .pointer (some ⟨g, 0, none⟩)) (hty : Agg P ty n)
  (hs : Sel l g t cs) (hw : Region.wanted o (yielded ops a.tmps) = true) (hl : cs.length = n)
  (h : wpList P ops Q rest (a.put o.dst (.agg cs.toArray)) w) : wpList P ops Q (o :: rest) a w := by
 refine Zp hw fun K hK => ?_
 obtain ⟨⟨d, hu, hr⟩, hsz⟩ := hty
 refine wp_load_mid ty x ho g 0 hx cs d ?_ hu hr (by rw [hl]; exact hsz) (hK _ _ h)
 intro j v hv
 rw [(HM.out.at_ hs).at_, Nat.zero_add]
 exact hv
theorem Kn {ty t : TypeId} {x y : Operand} {g n : Nat} {cs vs : List Value} (HM : Hid (Own W0 w l)) (ho : o.op = .store ty x y) (hx : a.eval x = .pointer (some ⟨g, 0, none⟩)) (hv : a.eval y = .agg vs.toArray)
  (hsel : Sel l g t cs) (hs : Put l g t cs vs l') (hty : j5 P ty n) (hn : vs.length = n) (hl : cs.length = n) (h1 : vs.all (·.oneCell') = true) (hw : Region.wanted o (yielded ops a.tmps) = true)
  (hd : o.dst = none) (h : ∀ w', Hid (Own W0 w' l') → wpList P ops Q rest a w') : wpList P ops Q (o :: rest) a w := by
 have h : ∀ w', Hid (Own W0 w' l') → wpList P ops Q rest (a.put o.dst undef) w' := by rw [hd]; exact h
 refine Zp hw fun K hK => ?_
 have hwh := (HM.out.whole _ hsel.mem).2
 exact wp_store_row ty x y ho g vs.toArray hx hv t cs.toArray hwh (by unfold j5 at hty; simpa [hn] using hty) (by simp [hl, hn]) (by simpa using h1) (hK _ _ (h _ (HM.out.of_row hs)))
theorem ZgX {ty : TypeId} {x : Operand} {p : Addr} {v : Value} (HM : Hid (Own W0 w l)) (ho : o.op = .load ty x) (hx : a.eval x = .pointer (some p)) (hty : One P ty)
  (hc : W0.cell? p = some v) (hp : p.spot = none) (hw : Region.wanted o (yielded ops a.tmps) = true) (h : wpList P ops Q rest (a.put o.dst v) w) : wpList P ops Q (o :: rest) a w := by
 refine Zp hw fun K hK => ?_
 have hc' : w.cell? p = some v := (HM.out.below.cell (block_lt_of_cell hc)).trans hc
 obtain ⟨g, off, s⟩ := p
 cases hp
 unfold Oper.wp execOp
 simp only [ho, hx, Instr.loadAt, Instr.sureAddr, Sem.run_bind, Sem.run_pure, Result.andThen_ok, ZG w g off ty v hc' hty]
 exact hK _ _ h
theorem Zi {fn : Func} {p : Tmp} {ty t : TypeId} {g : Nat} {cs : List Value} (HM : Hid (Own W0 w l)) (h : fn.results = #[.cell p ty]) (tmps : Array Value) (hp : tmps.getD p undef = .pointer (some ⟨g, 0, none⟩)) (hs : Sel l g t cs)
  (hty : Agg P ty cs.length) : (results fn tmps).run P w = .ok (.agg cs.toArray) w := by
 obtain ⟨⟨d, hu, hr⟩, hsz⟩ := hty
 exact results_cell_row h tmps w g t cs.toArray (0, 0) d hp (HM.out.at_ hs) hu (by cases d <;> first | rfl | cases hr) (by simpa using hsz)
end
section
variable {P : Program} {W0 w : World} {l : List (Nat × TypeId × List Value)} {ops : Array Oper} {rest : List Oper} {o : Oper} {a : Act} {Q : Act → Prop} {v : Value}
theorem Zo {id : Nat} {R : Exit → Act → World → Prop} {os : List Oper} (HM : Hid (Own W0 w l)) (hm : P.follows .mixedOrders = true) (hB : Region.lexB .any os.toArray = true)
  (h : wpQuiet P os.toArray (fun w' => Own W0 w' l) (fun a' => ∀ w', Hid (Own W0 w' l) → R .normal a' w') os a) : (Code.region id os.toArray true).wp P R a w :=
 wp_region_quiet (C := fun w' => Own W0 w' l) hm hB HM.out.drew h
theorem YU {C : World → Prop} {ops : Array Oper} {R : Exit → Act → World → Prop} : ∀ (os : List Oper) (a : Act) (w : World), C w → wpQuiet P ops C (fun a' => ∀ w', C w' → R .normal a' w') os a → wpList P ops R os a w
 | [], _, w, hC, h => h w hC
 | _ :: os, a, w, hC, h => by
  refine wpList_step fun K hK => ?_
  unfold wpQuiet at h
  split
  ·rename_i hw
   rw [if_pos hw] at h
   exact Oper.wp_of_quiet hC (fun a' w' hC' hq => hK a' w' (YU os a' w' hC' hq)) h
  ·rename_i hw
   rw [if_neg hw] at h
   exact hK _ _ (YU os _ w hC h)
theorem zH {id : Nat} {R : Exit → Act → World → Prop} {os : List Oper} (HM : Hid (Own W0 w l))
  (h : wpQuiet P os.toArray (fun w' => Own W0 w' l) (fun a' => ∀ w', Hid (Own W0 w' l) → R .normal a' w') os a) : (Code.region id os.toArray false).wp P R a w :=
 wp_region_lit (YU (C := fun w' => Own W0 w' l) os a w HM.out h)
end
section
variable {P : Program} {W0 w : World} {l : List (Nat × TypeId × List Value)} {a : Act} {C : World → Prop} {K : Act → Prop} {dst : Option Tmp} {op : Op} {ty0 : TypeId} {pos : String} {aft : Array Edge} {gd : Option (Nat × Bool)} {u : Value}
theorem YK (hx : ∀ w, C w → (execOp a.eval ⟨dst, op, ty0, pos, aft, gd⟩).run P w = .ok (.value u) w) (h : Oper.quiet P ⟨dst, .move (.const u), ty0, pos, aft, gd⟩ a C K) : Oper.quiet P ⟨dst, op, ty0, pos, aft, gd⟩ a C K := by
 obtain ⟨v, hv, hk⟩ := h
 refine ⟨v, fun w hC => ?_, hk⟩
 have h1 := hv w hC
 unfold Oper.quietAt at h1 ⊢
 rw [hx w hC]
 rw [BigFrame.run_move (.const u) rfl] at h1
 exact h1
theorem Js {ty t : TypeId} {x : Operand} {g off n : Nat} {cs r vs : List Value} (hx : a.eval x = .pointer (some ⟨g, off, none⟩)) (hty : Agg P ty n)
  (hs : Sel l g t cs) (hd : Drop cs off r) (ht : Take r n vs)
  (h : Oper.quiet P ⟨dst, .move (.const (.agg vs.toArray)), ty0, pos, aft, gd⟩ a (fun w' => Own W0 w' l) K) : Oper.quiet P ⟨dst, .load ty x, ty0, pos, aft, gd⟩ a (fun w' => Own W0 w' l) K := by
 obtain ⟨⟨d, hu, hr⟩, hsz⟩ := hty
 refine YK (fun w hC => ?_) h
 unfold execOp
 have hrun := run_loadVar_mid (P := P) w g off ty vs d (fun j v hv => ?_) hu hr (by rw [ht.len]; exact hsz)
 ·simp only [hx, Instr.loadAt, Instr.sureAddr, Sem.run_bind, Sem.run_pure, Result.andThen_ok, hrun]
 ·rw [(hC.at_ hs).at_]
  have e1 := hd.eq
  have e2 := ht.eq
  subst e1 e2
  rw [List.getElem?_take] at hv
  split at hv
  ·rwa [List.getElem?_drop] at hv
  ·cases hv
theorem Zbe {ty t : TypeId} {x : Operand} {g n : Nat} {cs : List Value} (hx : a.eval x = .pointer (some ⟨g, 0, none⟩)) (hty : Agg P ty n)
  (hs : Sel l g t cs) (hl : cs.length = n)
  (h : Oper.quiet P ⟨dst, .move (.const (.agg cs.toArray)), ty0, pos, aft, gd⟩ a (fun w' => Own W0 w' l) K) : Oper.quiet P ⟨dst, .load ty x, ty0, pos, aft, gd⟩ a (fun w' => Own W0 w' l) K := by
 obtain ⟨⟨d, hu, hr⟩, hsz⟩ := hty
 refine YK (fun w hC => ?_) h
 unfold execOp
 have hrun := run_loadVar_mid (P := P) w g 0 ty cs d (fun j v hv => by rw [(hC.at_ hs).at_, Nat.zero_add]; exact hv) hu hr (by rw [hl]; exact hsz)
 simp only [hx, Instr.loadAt, Instr.sureAddr, Sem.run_bind, Sem.run_pure, Result.andThen_ok, hrun]
theorem Ko {ty t : TypeId} {x : Operand} {g off : Nat} {cs r : List Value} (hx : a.eval x = .pointer (some ⟨g, off, none⟩)) (hty : One P ty)
  (hs : Sel l g t cs) (hd : Drop cs off (u :: r))
  (h : Oper.quiet P ⟨dst, .move (.const u), ty0, pos, aft, gd⟩ a (fun w' => Own W0 w' l) K) : Oper.quiet P ⟨dst, .load ty x, ty0, pos, aft, gd⟩ a (fun w' => Own W0 w' l) K := by
 refine YK (fun w hC => ?_) h
 have hc : w.cell? ⟨g, off, none⟩ = some u := by
  rw [(hC.at_ hs).at_]
  have e1 := hd.eq
  have : (cs.drop off)[0]? = some u := by rw [e1]; rfl
  simpa using this
 unfold execOp
 simp only [hx, Instr.loadAt, Instr.sureAddr, Sem.run_bind, Sem.run_pure, Result.andThen_ok, ZG w g off ty u hc hty]
theorem Vi {ty : TypeId} {x : Operand} {p : Addr} (hx : a.eval x = .pointer (some p)) (hty : One P ty) (hc : W0.cell? p = some u) (hp : p.spot = none)
  (h : Oper.quiet P ⟨dst, .move (.const u), ty0, pos, aft, gd⟩ a (fun w' => Own W0 w' l) K) : Oper.quiet P ⟨dst, .load ty x, ty0, pos, aft, gd⟩ a (fun w' => Own W0 w' l) K := by
 refine YK (fun w hC => ?_) h
 have hc' : w.cell? p = some u := (hC.below.cell (block_lt_of_cell hc)).trans hc
 obtain ⟨g, off, s⟩ := p
 cases hp
 unfold execOp
 simp only [hx, Instr.loadAt, Instr.sureAddr, Sem.run_bind, Sem.run_pure, Result.andThen_ok, ZG w g off ty u hc' hty]
theorem Zh {cl : Call} {f : FuncId} {args args' : Array Value} (hx : ∀ w, (execOp a.eval ⟨dst, .call cl, ty0, pos, aft, gd⟩).run P w = .ok (.enter f args') w) (ha : args' = args)
  (hc : ∀ w', Hid (Own W0 w' l) → Calls P f args w' fun e w'' => e = .returned u ∧ Below w'.heap.size w' w'')
  (h : Oper.quiet P ⟨dst, .move (.const u), ty0, pos, aft, gd⟩ a (fun w' => Own W0 w' l) K) : Oper.quiet P ⟨dst, .call cl, ty0, pos, aft, gd⟩ a (fun w' => Own W0 w' l) K := by
 obtain ⟨v, hv, hk⟩ := h
 refine ⟨v, fun w hC => ?_, hk⟩
 have h1 := hv w hC
 unfold Oper.quietAt at h1 ⊢
 rw [BigFrame.run_move (.const u) rfl] at h1
 obtain ⟨-, rfl⟩ := h1
 rw [hx w, ha]
 exact ⟨rfl, (hc w hC).mono fun _ _ ⟨he, hb⟩ => ⟨he, hC.call hb⟩⟩
end
section
variable {P : Program} {W0 w w' : World} {l l' : List (Nat × TypeId × List Value)} {ops : Array Oper} {rest : List Oper} {o : Oper} {a : Act} {Q : Exit → Act → World → Prop}
theorem Yr {ty t : TypeId} {x : Operand} {g off : Nat} {cs : List Value} {v : Value} (HM : Hid (Own W0 w l)) (ho : o.op = .load ty x) (hx : a.eval x = .pointer (some ⟨g, off, none⟩)) (hty : One P ty)
  (hs : Sel l g t cs) (hd : cs[off]? = some v) (hw : Region.wanted o (yielded ops a.tmps) = true)
  (h : wpList P ops Q rest (a.put o.dst v) w) : wpList P ops Q (o :: rest) a w := by
 refine Zp hw fun K hK => ?_
 have hc : w.cell? ⟨g, off, none⟩ = some v := by rw [(HM.out.at_ hs).at_]; exact hd
 unfold Oper.wp execOp
 simp only [ho, hx, Instr.loadAt, Instr.sureAddr, Sem.run_bind, Sem.run_pure, Result.andThen_ok, ZG w g off ty v hc hty]
 exact hK _ _ h
end
section
variable {P : Program} {W0 w : World} {l : List (Nat × TypeId × List Value)} {a : Act} {K : Act → Prop} {dst : Option Tmp} {ty0 : TypeId} {pos : String} {aft : Array Edge} {gd : Option (Nat × Bool)} {u : Value}
theorem Vj {ty t : TypeId} {x : Operand} {g off : Nat} {cs : List Value} (hx : a.eval x = .pointer (some ⟨g, off, none⟩)) (hty : One P ty)
  (hs : Sel l g t cs) (hd : cs[off]? = some u)
  (h : Oper.quiet P ⟨dst, .move (.const u), ty0, pos, aft, gd⟩ a (fun w' => Own W0 w' l) K) : Oper.quiet P ⟨dst, .load ty x, ty0, pos, aft, gd⟩ a (fun w' => Own W0 w' l) K := by
 refine YK (fun w hC => ?_) h
 have hc : w.cell? ⟨g, off, none⟩ = some u := by rw [(hC.at_ hs).at_]; exact hd
 unfold execOp
 simp only [hx, Instr.loadAt, Instr.sureAddr, Sem.run_bind, Sem.run_pure, Result.andThen_ok, ZG w g off ty u hc hty]
end
section
variable {W0 w w' : World} {l l' L R R' : List (Nat × TypeId × List Value)} {t : TypeId} {v v' : Value} {xs us : List Value} {n size : Nat}
theorem Own.perm (h : Own W0 w l) (hp : l.Perm l') : Own W0 w l' :=
 ⟨h.below, fun e he => h.whole e (hp.mem_iff.2 he), (List.Perm.pairwise_iff (fun h => Ne.symm h) hp).1 h.apart⟩
theorem Own.tail {l1 l2 : List (Nat × TypeId × List Value)} (h : Own W0 w (l1 ++ l2)) : Own W0 w l2 :=
 ⟨h.below, fun e he => h.whole e (by simp [he]), (List.pairwise_append.1 h.apart).2.1⟩
def Yv (t : TypeId) (size : Nat) (R : List (Nat × TypeId × List Value)) (v : Value) (n : Nat) (xs : List Value) : Prop :=
 xs.length = n * size ∧ ((R = [] ∧ v = .slice none 0 0 ∧ n = 0) ∨
 ∃ g cap cur, R = [(g, t, cur)] ∧ v = .slice (some ⟨g, 0, none⟩) n cap ∧ n ≤ cap ∧ cap ≤ maxLen ∧ cur.length = cap * size ∧ cur.take (n * size) = xs)
theorem Yv.nil (t : TypeId) (size : Nat) : Yv t size [] (.slice none 0 0) 0 [] := ⟨by simp, .inl ⟨rfl, rfl, rfl⟩⟩
theorem Yv.owns (h : Yv t size R v n xs) {B : Nat} (hR : ∀ e ∈ R, B ≤ e.1 ∧ ZL w e.1 e.2.1 e.2.2) : w.ownsRow B t size v n xs := by
 obtain ⟨hl, ⟨-, rfl, rfl⟩ | ⟨g, cap, cur, rfl, rfl, h1, h2, h3, h4⟩⟩ := h
 ·exact ⟨hl, .inl ⟨rfl, rfl⟩⟩
 ·obtain ⟨hb, hw⟩ := hR (g, t, cur) (by simp)
  exact ⟨hl, .inr ⟨g, cap, cur.toArray, rfl, hb, hw, h1, h2, by simpa using h3, by simpa using h4⟩⟩
theorem Own.grow {g cap : Nat} (h : Own W0 w (L ++ R)) (hR : Yv t size R v n xs) (hg : w.grownBy w' v.ownBlock)
  (hw' : w'.ownsRow W0.heap.size t size (.slice (some ⟨g, 0, none⟩) (n + 1) cap) (n + 1) (xs ++ us)) (hlie : v.ownBlock = some g ∨ g = w.heap.size) :
  ∃ R', Yv t size R' (.slice (some ⟨g, 0, none⟩) (n + 1) cap) (n + 1) (xs ++ us) ∧ Own W0 w' (L ++ R') := by
 have hrow : ∀ k, v.ownBlock = some k → ∃ cur, R = [(k, t, cur)] := by
  intro k hk
  obtain ⟨-, ⟨-, rfl, -⟩ | ⟨g, cap, cur, rfl, rfl, -⟩⟩ := hR
  ·cases hk
  ·cases hk; exact ⟨cur, rfl⟩
 have hlo : ∀ k, v.ownBlock = some k → W0.heap.size ≤ k := by
  intro k hk
  obtain ⟨cur, hm⟩ := hrow k hk
  exact (h.whole (k, t, cur) (by simp [hm])).1
 have hap := List.pairwise_append.1 h.apart
 have hLw : ∀ e ∈ L, W0.heap.size ≤ e.1 ∧ ZL w' e.1 e.2.1 e.2.2 ∧ e.1 ≠ g := by
  intro e he
  have hx := h.whole e (by simp [he])
  have hne : some e.1 ≠ v.ownBlock := by
   intro hk
   obtain ⟨cur, hm⟩ := hrow e.1 hk.symm
   exact hap.2.2 e he (e.1, t, cur) (by simp [hm]) rfl
  refine ⟨hx.1, hx.2.grown hg hne, ?_⟩
  rcases hlie with hlie | rfl
  ·rw [hlie] at hne
   exact fun h => hne (by rw [h])
  ·have := hx.2.inside
   omega
 obtain ⟨hl', ⟨h0, _⟩ | ⟨g', cap', cur, hv, hb, hw, h1, h2, h3, h4⟩⟩ := hw'
 ·cases h0
 ·injection hv with hv1 _ hv2
  injection hv1 with hv1
  injection hv1 with hv1
  subst hv1 hv2
  refine ⟨[(g, t, cur.toList)], ⟨hl', .inr ⟨g, cap, cur.toList, rfl, rfl, h1, h2, by simpa using h3, h4⟩⟩, h.below.trans ((Below.refl _ w).grown hg h.below.size hlo), ?_, ?_⟩
  ·intro e he
   rcases List.mem_append.1 he with he | he
   ·exact ⟨(hLw e he).1, (hLw e he).2.1⟩
   ·obtain rfl := List.mem_singleton.1 he
    exact ⟨hb, hw⟩
  ·rw [List.pairwise_append]
   refine ⟨hap.1, List.pairwise_singleton _ _, ?_⟩
   intro a ha b hb'
   obtain rfl := List.mem_singleton.1 hb'
   exact (hLw a ha).2.2
end
theorem j6 {P : Program} {W0 w : World} {l : List (Nat × TypeId × List Value)} {ops : Array Oper} {rest : List Oper} {o : Oper} {a : Act} {Q : Exit → Act → World → Prop} {g3 n size bytes : Nat} {t3 t e : TypeId} {L R : List (Nat × TypeId × List Value)} {v z : Value} {xs us : List Value} {s y : Operand} {i : TypeInfo}
  (HM : Hid (Own W0 w l)) (hp : l.Perm ((g3, t3, us) :: (L ++ R))) (HR : Yv e size R v n xs) (hgd : o.guard = none)
  (ho : o.op = .call { callee := .builtin .append, args := #[s, y], argTypes := #[t, t] }) (hs : a.eval s = v) (hy : a.eval y = .slice (some ⟨g3, 0, none⟩) 1 1) (hu : us.all (·.oneCell') = true) (hl : us.length = size) (hn : n ≤ 1000000) (hb : bytes ≤ 1000)
  (ht : P.underlying t = some (.slice e)) (hi : P.info? e = some i) (hz : i.zero = some z) (hsize : i.size = size) (hby : i.bytes = bytes) (hzs : z.cells.size = size) (hsz : 0 < size)
  (h : ∀ gg cap w' R', Yv e size R' (.slice (some ⟨gg, 0, none⟩) (n + 1) cap) (n + 1) (xs ++ us) → Hid (Own W0 w' (L ++ R')) → wpList P ops Q rest (a.put o.dst (.slice (some ⟨gg, 0, none⟩) (n + 1) cap)) w') : wpList P ops Q (o :: rest) a w := by
 have hO : Own W0 w ([(g3, t3, us)] ++ (L ++ R)) := HM.out.perm hp
 have hrow := HR.owns (w := w) (B := W0.heap.size) (fun e he => hO.whole e (by simp [he]))
 have hw3 := hO.whole (g3, t3, us) (by simp)
 refine wpList_append_lies w hgd s y t ho W0.heap.size e i z size bytes ht hi hz hsize hby hzs hsz v n xs hs hrow ⟨g3, 0, none⟩ 1 1 us hy (by omega) ?_ (by simpa using hu) (by omega) (by unfold maxLen; omega) ?_ hO.below.size w.heap.size rfl ?_
 ·intro j x hj
  have := hw3.2.at_ j
  rw [show (⟨g3, 0, none⟩ : Addr).add j = ⟨g3, j, none⟩ by unfold Addr.add; split <;> simp_all, this, ← hj]
 ·have : (n + 1) * bytes ≤ 1000001 * 1000 := Nat.mul_le_mul (by omega) hb
  omega
 ·intro g cap w' h1 h2 h3 _
  obtain ⟨R', hR', hO'⟩ := hO.tail.grow HR h2 h1 h3
  exact h _ _ _ R' hR' hO'
def allB : Nat → (Nat → Bool) → Bool
 | 0, _ => true
 | n + 1, p => (p n).and (allB n p)
theorem Zu {n : Nat} {p : Nat → Bool} (h : allB n p = true) (k : Nat) (hk : k < n) : p k = true := by
 induction n with
 | zero => omega
 | succ n ih =>
  simp only [allB, Bool.and_eq_true] at h
  by_cases e : k = n
  ·subst e; exact h.1
  ·exact ih h.2 (by omega)
theorem Yb {n m : Nat} {p : Nat → Nat → Bool} (h : allB n (fun a => allB m (p a)) = true) (a b : Nat) (ha : a < n) (hb : b < m) : p a b = true := Zu (Zu h a ha) b hb
def Zq (s z y h x p n c : Bool) : Nat :=
 Nat.add (cond s 128 0) (Nat.add (cond z 64 0) (Nat.add (cond y 32 0) (Nat.add (cond h 16 0) (Nat.add (cond x 8 0) (Nat.add (cond p 4 0) (Nat.add (cond n 2 0) (cond c 1 0)))))))
def nS (v : Nat) : Bool := Nat.ble 128 v
def nZ (v : Nat) : Bool := Nat.beq v 0
def Zf (k v : Nat) : Bool := Nat.beq (Nat.mod (Nat.div v k) 2) 1
def nOnes : Nat → Nat → Nat
 | 0, _ => 0
 | k + 1, v => Nat.add (Nat.mod v 2) (nOnes k (Nat.div v 2))
def Jt (v : Nat) : Bool := Nat.beq (Nat.mod (nOnes 8 v) 2) 0
def nShape (v : Nat) : Nat := Zq (nS v) (nZ v) (Zf 32 v) false (Zf 8 v) false false false
def zI (t : Nat) : Bool := not (and (Nat.ble 128 t) (Nat.ble t 383))
def JT (a : Nat) : Nat := Nat.mod (Nat.add a 128) 256
def Yw (a b c : Nat) : Nat := Nat.mod (Nat.add (Nat.add a b) c) 256
def zJ (v a b c : Nat) : Nat :=
 Zq (nS v) (nZ v) (Zf 32 v) (Nat.ble 16 (Nat.add (Nat.add (Nat.mod a 16) (Nat.mod b 16)) c)) (Zf 8 v) (zI (Nat.add (Nat.add (JT a) (JT b)) c)) false (Nat.ble 256 (Nat.add (Nat.add a b) c))
def Yp (a b c : Nat) : Nat := zJ (Yw a b c) a b c
def ZY (a b c : Nat) : Nat := Nat.mod (Nat.sub (Nat.add a 512) (Nat.add b c)) 256
def zK (v a b c : Nat) : Nat :=
 Zq (nS v) (nZ v) (Zf 32 v) (Nat.ble (Nat.add (Nat.mod a 16) 1) (Nat.add (Nat.mod b 16) c)) (Zf 8 v) (zI (Nat.sub (Nat.add (JT a) 256) (Nat.add (JT b) c))) true (Nat.ble (Nat.add a 1) (Nat.add b c))
def ZU (a b c : Nat) : Nat := zK (ZY a b c) a b c
def nBitsF (v : Nat) (h : Bool) : Nat := Zq (nS v) (nZ v) (Zf 32 v) h (Zf 8 v) (Jt v) false false
def ZgY (a b : Nat) : Nat := Nat.lor (Nat.land (ZU a b 0) 215) (Nat.land b 40)
def YE (f g : Nat) : Nat := Nat.lor (Nat.land f 254) (Nat.land g 1)
def Zbf (a f : Nat) : Bool := or (Zf 16 f) (Nat.ble 10 (Nat.mod a 16))
def Kp (a f : Nat) : Bool := or (Zf 1 f) (Nat.ble 154 a)
def KS (a f : Nat) : Nat :=
 cond (Zf 2 f) (Nat.mod (Nat.sub (Nat.add a 512) (Nat.add (cond (Zbf a f) 6 0) (cond (Kp a f) 96 0))) 256) (Nat.mod (Nat.add (Nat.add a (cond (Zbf a f) 6 0)) (cond (Kp a f) 96 0)) 256)
def Zbg (v a f : Nat) : Nat :=
 Zq (nS v) (nZ v) (Zf 32 v) (xor (Zf 16 a) (Zf 16 v)) (Zf 8 v) (Jt v) (Zf 2 f) (Kp a f)
def Um (a f : Nat) : Nat := Zbg (KS a f) a f
def Zbh (a f : Nat) : Nat := Zq (Zf 128 f) (Zf 64 f) (Zf 32 (Nat.sub 255 a)) true (Zf 8 (Nat.sub 255 a)) (Zf 4 f) true (Zf 1 f)
def Zbi (a f : Nat) : Nat := Zq (Zf 128 f) (Zf 64 f) (Zf 32 a) false (Zf 8 a) (Zf 4 f) false true
def Zbj (a f : Nat) : Nat := Zq (Zf 128 f) (Zf 64 f) (Zf 32 a) (Zf 1 f) (Zf 8 a) (Zf 4 f) false (not (Zf 1 f))
theorem Zm (s z y h x p n c : Bool) : Zq s z y h x p n c < 256 := by
 cases s <;> cases z <;> cases y <;> cases h <;> cases x <;> cases p <;> cases n <;> cases c <;> decide
theorem YL (a b c : Nat) : Yw a b c < 256 := Nat.mod_lt _ (by omega)
theorem JU (a b c : Nat) : Yp a b c < 256 := Zm _ _ _ _ _ _ _ _
theorem Yn (a b c : Nat) : ZY a b c < 256 := Nat.mod_lt _ (by omega)
theorem YM (a b c : Nat) : ZU a b c < 256 := Zm _ _ _ _ _ _ _ _
theorem YV (v : Nat) (h : Bool) : nBitsF v h < 256 := Zm _ _ _ _ _ _ _ _
theorem vC {a b : Nat} (h : a < 256) : a &&& b < 256 := Nat.lt_of_le_of_lt Nat.and_le_left h
theorem vD {a b : Nat} (h : b < 256) : a &&& b < 256 := Nat.lt_of_le_of_lt Nat.and_le_right h
theorem or8 {a b : Nat} (h : a < 256) (h' : b < 256) : a ||| b < 256 := Nat.or_lt_two_pow (n := 8) h h'
theorem ZgZ {a b : Nat} (h : a < 256) (h' : b < 256) : a ^^^ b < 256 := Nat.xor_lt_two_pow (n := 8) h h'
theorem YB (f g : Nat) : YE f g < 256 := or8 (vD (by omega)) (vD (by omega))
theorem Zg0 (a b : Nat) : ZgY a b < 256 := or8 (vD (by omega)) (vD (by omega))
theorem Uo (a f : Nat) : KS a f < 256 := by unfold KS; cases Zf 2 f <;> exact Nat.mod_lt _ (by omega)
theorem j7 (a f : Nat) : Um a f < 256 := Zm _ _ _ _ _ _ _ _
theorem vE (f g : Nat) (hf : f < 256) (hg : g < 256) : Zq (Zf 128 f) (Zf 64 f) (Zf 32 f) (Zf 16 f) (Zf 8 f) (Zf 4 f) (Zf 2 f) (Zf 1 g) = YE f g := by
 have h1 := Zu (show allB 256 (fun f => and (Nat.beq (Zq (Zf 128 f) (Zf 64 f) (Zf 32 f) (Zf 16 f) (Zf 8 f) (Zf 4 f) (Zf 2 f) false) (Nat.lor (Nat.land f 254) 0)) (Nat.beq (Zq (Zf 128 f) (Zf 64 f) (Zf 32 f) (Zf 16 f) (Zf 8 f) (Zf 4 f) (Zf 2 f) true) (Nat.lor (Nat.land f 254) 1))) = true by decide +kernel) f hf
 have h2 := Zu (show allB 256 (fun g => Nat.beq (Nat.land g 1) (cond (Zf 1 g) 1 0)) = true by decide +kernel) g hg
 have e := Nat.eq_of_beq_eq_true h2
 rw [Bool.and_eq_true] at h1
 unfold YE
 rw [e]
 cases Zf 1 g
 ·exact Nat.eq_of_beq_eq_true h1.1
 ·exact Nat.eq_of_beq_eq_true h1.2
theorem zL (f b : Nat) (hf : f < 256) (hb : b < 256) : Zq (Zf 128 f) (Zf 64 f) (Zf 32 b) (Zf 16 f) (Zf 8 b) (Zf 4 f) (Zf 2 f) (Zf 1 f) = Nat.lor (Nat.land f 215) (Nat.land b 40) := by
 have h2 := Zu (show allB 256 (fun g => Nat.beq (Nat.land g 40) (Nat.add (cond (Zf 32 g) 32 0) (cond (Zf 8 g) 8 0))) = true by decide +kernel) b hb
 rw [Nat.eq_of_beq_eq_true h2]
 have h1 := Zu (show allB 256 (fun f =>
  and (and (Nat.beq (Zq (Zf 128 f) (Zf 64 f) false (Zf 16 f) false (Zf 4 f) (Zf 2 f) (Zf 1 f)) (Nat.lor (Nat.land f 215) 0))
   (Nat.beq (Zq (Zf 128 f) (Zf 64 f) false (Zf 16 f) true (Zf 4 f) (Zf 2 f) (Zf 1 f)) (Nat.lor (Nat.land f 215) 8)))
   (and (Nat.beq (Zq (Zf 128 f) (Zf 64 f) true (Zf 16 f) false (Zf 4 f) (Zf 2 f) (Zf 1 f)) (Nat.lor (Nat.land f 215) 32))
   (Nat.beq (Zq (Zf 128 f) (Zf 64 f) true (Zf 16 f) true (Zf 4 f) (Zf 2 f) (Zf 1 f)) (Nat.lor (Nat.land f 215) 40)))) = true by decide +kernel) f hf
 simp only [Bool.and_eq_true] at h1
 obtain ⟨⟨a, b'⟩, c, d⟩ := h1
 cases Zf 32 b <;> cases Zf 8 b
 ·exact Nat.eq_of_beq_eq_true a
 ·exact Nat.eq_of_beq_eq_true b'
 ·exact Nat.eq_of_beq_eq_true c
 ·exact Nat.eq_of_beq_eq_true d
theorem vF (v : Nat) (h : v < 256) : Nat.lor (Nat.land v 168) (cond (Nat.beq v 0) 64 0) = nShape v := by
 exact Nat.eq_of_beq_eq_true (Zu (show allB 256 (fun v => Nat.beq (Nat.lor (Nat.land v 168) (cond (Nat.beq v 0) 64 0)) (nShape v)) = true by decide +kernel) v h)
theorem Wc (v : Nat) (h : v < 256) : Nat.lor (nShape v) (cond (Jt v) 4 0) = nBitsF v false := by
 exact Nat.eq_of_beq_eq_true (Zu (show allB 256 (fun v => Nat.beq (Nat.lor (nShape v) (cond (Jt v) 4 0)) (nBitsF v false)) = true by decide +kernel) v h)
theorem Zbk (v : Nat) (h : v < 256) : Nat.lor (nBitsF v false) 16 = nBitsF v true := by
 exact Nat.eq_of_beq_eq_true (Zu (show allB 256 (fun v => Nat.beq (Nat.lor (nBitsF v false) 16) (nBitsF v true)) = true by decide +kernel) v h)
theorem vG (a b c : Nat) (ha : a < 256) (hb : b < 256) (hc : c ≤ 1) : Yw a (255 - b) (1 - c) = ZY a b c ∧ Nat.lor (Nat.xor (Yp a (255 - b) (1 - c)) 17) 2 = ZU a b c := by
 have hv : Yw a (255 - b) (1 - c) = ZY a b c := by
  show (a + (255 - b) + (1 - c)) % 256 = (a + 512 - (b + c)) % 256
  omega
 refine ⟨hv, ?_⟩
 unfold Yp ZU
 rw [hv]
 unfold zJ zK
 have e1 : Nat.ble 16 (Nat.add (Nat.add (Nat.mod a 16) (Nat.mod (255 - b) 16)) (1 - c)) = not (Nat.ble (Nat.add (Nat.mod a 16) 1) (Nat.add (Nat.mod b 16) c)) := by
  rw [Bool.eq_iff_iff, Bool.not_eq_true', Bool.eq_false_iff]
  simp only [ne_eq, Nat.ble_eq]
  show 16 ≤ a % 16 + (255 - b) % 16 + (1 - c) ↔ ¬ (a % 16 + 1 ≤ b % 16 + c)
  omega
 have e2 : Nat.ble 256 (Nat.add (Nat.add a (255 - b)) (1 - c)) = not (Nat.ble (Nat.add a 1) (Nat.add b c)) := by
  rw [Bool.eq_iff_iff, Bool.not_eq_true', Bool.eq_false_iff]
  simp only [ne_eq, Nat.ble_eq]
  show 256 ≤ a + (255 - b) + (1 - c) ↔ ¬ (a + 1 ≤ b + c)
  omega
 have e3 : Nat.add (Nat.add (JT a) (JT (255 - b))) (1 - c) = Nat.sub (Nat.add (JT a) 256) (Nat.add (JT b) c) := by
  show (a + 128) % 256 + (255 - b + 128) % 256 + (1 - c) = (a + 128) % 256 + 256 - ((b + 128) % 256 + c)
  omega
 rw [e1, e2, e3]
 generalize nS (ZY a b c) = s
 generalize nZ (ZY a b c) = z
 generalize Zf 32 (ZY a b c) = y
 generalize Zf 8 (ZY a b c) = x
 generalize Nat.ble (Nat.add (Nat.mod a 16) 1) (Nat.add (Nat.mod b 16) c) = h
 generalize Nat.ble (Nat.add a 1) (Nat.add b c) = k
 generalize zI _ = p
 cases s <;> cases z <;> cases y <;> cases h <;> cases x <;> cases p <;> cases k <;> rfl
def upd (m : Nat → Nat) (a v : Nat) : Nat → Nat := fun i => if i = a then v else m i
theorem Zbl {m : Nat → Nat} (h : ∀ i, m i < 256) (a v : Nat) (hv : v < 256) : ∀ i, upd m a v i < 256 := by
 intro i; unfold upd; split; exact hv; exact h i
def up1 (n : Nat) : Nat := (n + 1) % 65536
def dn1 (n : Nat) : Nat := (n + 65535) % 65536
theorem Zy (n : Nat) : up1 n < 65536 := Nat.mod_lt _ (by omega)
theorem ZP (n : Nat) : dn1 n < 65536 := Nat.mod_lt _ (by omega)
structure U where
 m : Nat → Nat
 g : List Int
namespace U
def rd (u : U) (a : Nat) : U := { u with g := u.g ++ [(a : Int)] }
def wr (u : U) (a v : Nat) : U := { u with m := upd u.m a v, g := u.g ++ [1000000 + (a : Int) * 256 + (v : Int)] }
def ip (u : U) (p t : Nat) : U := { u with g := u.g ++ [100000000 + (p : Int) * 64 + (t : Int)] }
def ipV (u : U) (p _t : Nat) : Nat := (p * 7 + (u.g.length + 1) * 13) % 256
def op (u : U) (p v t : Nat) : U := { u with g := u.g ++ [1000000000 + ((p : Int) * 64 + (t : Int)) * 256 + (v : Int)] }
end U
structure Rg where
 a : Nat
 f : Nat
 b : Nat
 c : Nat
 d : Nat
 e : Nat
 h : Nat
 l : Nat
 x0 : Nat
 x1 : Nat
 x2 : Nat
 x3 : Nat
 x4 : Nat
 x5 : Nat
 x6 : Nat
 x7 : Nat
 ix : Nat
 iy : Nat
 sp : Nat
 pc : Nat
 wz : Nat
 i : Nat
 r : Nat
 im : Nat
 px : Nat
 q1 : Bool
 q2 : Bool
 ht : Bool
 dl : Bool
def Rg.cells (r : Rg) : List Value := [.int .u8 (r.a : Int), .int .u8 (r.f : Int), .int .u8 (r.b : Int), .int .u8 (r.c : Int), .int .u8 (r.d : Int), .int .u8 (r.e : Int), .int .u8 (r.h : Int), .int .u8 (r.l : Int),
 .int .u8 (r.x0 : Int), .int .u8 (r.x1 : Int), .int .u8 (r.x2 : Int), .int .u8 (r.x3 : Int), .int .u8 (r.x4 : Int), .int .u8 (r.x5 : Int), .int .u8 (r.x6 : Int), .int .u8 (r.x7 : Int),
 .int .u16 (r.ix : Int), .int .u16 (r.iy : Int), .int .u16 (r.sp : Int), .int .u16 (r.pc : Int), .int .u16 (r.wz : Int), .int .u8 (r.i : Int), .int .u8 (r.r : Int), .int .u8 (r.im : Int), .int .u8 (r.px : Int),
 .bool r.q1, .bool r.q2, .bool r.ht, .bool r.dl]
abbrev Rg.v (r : Rg) : Value := .agg r.cells.toArray
theorem Rg.cells_length (r : Rg) : r.cells.length = 29 := rfl
theorem Rg.one1 (r : Rg) : r.cells.all (·.oneCell') = true := rfl
structure Rg.Fits (R : Rg) : Prop where
 a : R.a < 256
 f : R.f < 256
 b : R.b < 256
 c : R.c < 256
 d : R.d < 256
 e : R.e < 256
 h : R.h < 256
 l : R.l < 256
 x0 : R.x0 < 256
 x1 : R.x1 < 256
 x2 : R.x2 < 256
 x3 : R.x3 < 256
 x4 : R.x4 < 256
 x5 : R.x5 < 256
 x6 : R.x6 < 256
 x7 : R.x7 < 256
 ix : R.ix < 65536
 iy : R.iy < 65536
 sp : R.sp < 65536
 pc : R.pc < 65536
 wz : R.wz < 65536
 i : R.i < 256
 r : R.r < 256
 im : R.im < 256
 px : R.px < 256
def Rg.pair (r : Rg) (n : Int) : Nat :=
 if n = 0 then r.b * 256 + r.c else if n = 1 then r.d * 256 + r.e else if n = 2 then r.h * 256 + r.l else if n = 3 then r.sp else if n = 4 then r.a * 256 + r.f else if n = 5 then r.ix else if n = 6 then r.iy else 0
def Rg.setPair (r : Rg) (n : Int) (v : Nat) : Rg :=
 if n = 0 then { r with b := v / 256, c := v % 256 } else if n = 1 then { r with d := v / 256, e := v % 256 } else if n = 2 then { r with h := v / 256, l := v % 256 } else if n = 3 then { r with sp := v }
 else if n = 4 then { r with a := v / 256, f := v % 256 } else if n = 5 then { r with ix := v } else if n = 6 then { r with iy := v } else r
def ZT (px : Nat) : Int := if px = 221 then 5 else if px = 253 then 6 else 2
def Rg.one (r : Rg) (n : Int) (px : Nat) : Nat :=
 if n = 0 then r.b else if n = 1 then r.c else if n = 2 then r.d else if n = 3 then r.e else if n = 7 then r.a else if n = 4 then r.pair (ZT px) / 256 else if n = 5 then r.pair (ZT px) % 256 else 0
def Rg.setOne (r : Rg) (n : Int) (px v : Nat) : Rg :=
 if n = 0 then { r with b := v } else if n = 1 then { r with c := v } else if n = 2 then { r with d := v } else if n = 3 then { r with e := v } else if n = 7 then { r with a := v }
 else if n = 4 then r.setPair (ZT px) (v * 256 + r.pair (ZT px) % 256) else if n = 5 then r.setPair (ZT px) (r.pair (ZT px) / 256 * 256 + v) else r
def Rg.swap (r : Rg) (all : Bool) : Rg :=
 cond all { r with b := r.x2, c := r.x3, d := r.x4, e := r.x5, h := r.x6, l := r.x7, x2 := r.b, x3 := r.c, x4 := r.d, x5 := r.e, x6 := r.h, x7 := r.l }
  { r with a := r.x0, f := r.x1, x0 := r.a, x1 := r.f }
def Rg.tick (r : Rg) : Rg := { r with r := r.r / 128 * 128 + (r.r % 128 + 1) % 128 }
def Rg.right (r : Rg) : Bool := decide (r.im ≤ 2) && (decide (r.px = 0) || decide (r.px = 221) || decide (r.px = 253))
theorem Rg.pair_lt (r : Rg) (h : r.Fits) (n : Int) : r.pair n < 65536 := by
 have := h.a; have := h.f; have := h.b; have := h.c; have := h.d; have := h.e; have := h.h; have := h.l; have := h.ix; have := h.iy; have := h.sp
 unfold Rg.pair; (repeat' split) <;> omega
theorem zM (px : Nat) : ZT px = 5 ∨ ZT px = 6 ∨ ZT px = 2 := by unfold ZT; (repeat' split) <;> simp
theorem Rg.setPair_fits (r : Rg) (h : r.Fits) (n : Int) (v : Nat) (hv : v < 65536) : (r.setPair n v).Fits := by
 unfold Rg.setPair
 (repeat' split) <;> first | exact h | (constructor <;> first | exact h.a | exact h.f | exact h.b | exact h.c | exact h.d | exact h.e | exact h.h | exact h.l | exact h.x0 | exact h.x1 | exact h.x2 | exact h.x3 | exact h.x4 | exact h.x5 | exact h.x6 | exact h.x7 | exact h.ix | exact h.iy | exact h.sp | exact h.pc | exact h.wz | exact h.i | exact h.r | exact h.im | exact h.px | (show _ < _; omega) | (simp only; omega))
theorem VX (n : Int) : n = 0 ∨ n = 1 ∨ n = 2 ∨ n = 3 ∨ n = 4 ∨ n = 5 ∨ n = 6 ∨ (¬ n = 0 ∧ ¬ n = 1 ∧ ¬ n = 2 ∧ ¬ n = 3 ∧ ¬ n = 4 ∧ ¬ n = 5 ∧ ¬ n = 6) := by omega
theorem Wd (n : Int) : n = 0 ∨ n = 1 ∨ n = 2 ∨ n = 3 ∨ n = 7 ∨ n = 4 ∨ n = 5 ∨ (¬ n = 0 ∧ ¬ n = 1 ∧ ¬ n = 2 ∧ ¬ n = 3 ∧ ¬ n = 7 ∧ ¬ n = 4 ∧ ¬ n = 5) := by omega
theorem Rg.pair_no (r : Rg) (n : Int) (h : ¬ n = 0 ∧ ¬ n = 1 ∧ ¬ n = 2 ∧ ¬ n = 3 ∧ ¬ n = 4 ∧ ¬ n = 5 ∧ ¬ n = 6) : r.pair n = 0 := by
 obtain ⟨h0, h1, h2, h3, h4, h5, h6⟩ := h
 simp [Rg.pair, h0, h1, h2, h3, h4, h5, h6]
theorem Rg.setPair_no (r : Rg) (n : Int) (v : Nat) (h : ¬ n = 0 ∧ ¬ n = 1 ∧ ¬ n = 2 ∧ ¬ n = 3 ∧ ¬ n = 4 ∧ ¬ n = 5 ∧ ¬ n = 6) : r.setPair n v = r := by
 obtain ⟨h0, h1, h2, h3, h4, h5, h6⟩ := h
 simp [Rg.setPair, h0, h1, h2, h3, h4, h5, h6]
theorem Rg.one_no (r : Rg) (n : Int) (px : Nat) (h : ¬ n = 0 ∧ ¬ n = 1 ∧ ¬ n = 2 ∧ ¬ n = 3 ∧ ¬ n = 7 ∧ ¬ n = 4 ∧ ¬ n = 5) : r.one n px = 0 := by
 obtain ⟨h0, h1, h2, h3, h7, h4, h5⟩ := h
 simp [Rg.one, h0, h1, h2, h3, h7, h4, h5]
theorem Rg.setOne_no (r : Rg) (n : Int) (px v : Nat) (h : ¬ n = 0 ∧ ¬ n = 1 ∧ ¬ n = 2 ∧ ¬ n = 3 ∧ ¬ n = 7 ∧ ¬ n = 4 ∧ ¬ n = 5) : r.setOne n px v = r := by
 obtain ⟨h0, h1, h2, h3, h7, h4, h5⟩ := h
 simp [Rg.setOne, h0, h1, h2, h3, h7, h4, h5]
theorem Rg.one_lt (r : Rg) (h : r.Fits) (n : Int) (px : Nat) : r.one n px < 256 := by
 have := h.a; have := h.b; have := h.c; have := h.d; have := h.e
 have := r.pair_lt h (ZT px)
 unfold Rg.one; (repeat' split) <;> omega
theorem Rg.setOne_fits (r : Rg) (h : r.Fits) (n : Int) (px v : Nat) (hv : v < 256) : (r.setOne n px v).Fits := by
 have := r.pair_lt h (ZT px)
 unfold Rg.setOne
 (repeat' split) <;> first | exact h | exact r.setPair_fits h _ _ (by omega) | (constructor <;> first | exact h.a | exact h.f | exact h.b | exact h.c | exact h.d | exact h.e | exact h.h | exact h.l | exact h.x0 | exact h.x1 | exact h.x2 | exact h.x3 | exact h.x4 | exact h.x5 | exact h.x6 | exact h.x7 | exact h.ix | exact h.iy | exact h.sp | exact h.pc | exact h.wz | exact h.i | exact h.r | exact h.im | exact h.px | exact hv)
def Rg.alt (r : Rg) : List Value := [.int .u8 (r.x0 : Int), .int .u8 (r.x1 : Int), .int .u8 (r.x2 : Int), .int .u8 (r.x3 : Int), .int .u8 (r.x4 : Int), .int .u8 (r.x5 : Int), .int .u8 (r.x6 : Int), .int .u8 (r.x7 : Int)]
theorem oneInt : One Tryz.prog 3 := ⟨⟨_, Tryz.underlying3, rfl⟩, by kernel_rfl⟩
theorem oneBool : One Tryz.prog 4 := ⟨⟨_, Tryz.underlying4, rfl⟩, by kernel_rfl⟩
theorem oneU8 : One Tryz.prog 5 := ⟨⟨_, Tryz.underlying5, rfl⟩, by kernel_rfl⟩
theorem Own.fin {W0 w : World} {l : List (Nat × TypeId × List Value)} (h : Hid (Own W0 w l)) : Below W0.heap.size W0 w := h.out.below
theorem aggR : Agg Tryz.prog 25 29 := ⟨⟨_, Tryz.underlying25, rfl⟩, by kernel_rfl⟩
theorem oneStr : One Tryz.prog 9 := ⟨⟨_, Tryz.underlying9, rfl⟩, by kernel_rfl⟩
theorem oneU16 : One Tryz.prog 23 := ⟨⟨_, Tryz.underlying23, rfl⟩, by kernel_rfl⟩
def rg0 : Rg := ⟨0, 0, 0, 0, 0, 0, 0, 0, 0, 0, 0, 0, 0, 0, 0, 0, 0, 0, 0, 0, 0, 0, 0, 0, 0, false, false, false, false⟩
theorem zeroR : ZgV Tryz.prog 25 rg0.cells := ⟨.agg rg0.cells.toArray, fun _ => by kernel_rfl, rfl⟩
theorem aggAlt : Agg Tryz.prog 22 8 := ⟨⟨_, Tryz.underlying22, rfl⟩, by kernel_rfl⟩
theorem Rg.altDrop (r : Rg) : Drop r.cells 8 (r.alt ++ r.cells.drop 16) := by repeat' first | exact .z | apply Drop.s
theorem Rg.altTake (r : Rg) : Take (r.alt ++ r.cells.drop 16) 8 r.alt := by repeat' first | exact .z | apply Take.s
theorem Zed (d : Nat) (x0 x1 x2 x3 x4 x5 x6 x7 : Int) (w : World) :
  (Op.equalIn (d + 2) 22 (.agg #[.int .u8 x0, .int .u8 x1, .int .u8 x2, .int .u8 x3, .int .u8 x4, .int .u8 x5, .int .u8 x6, .int .u8 x7]) (.agg #[.int .u8 x0, .int .u8 x1, .int .u8 x2, .int .u8 x3, .int .u8 x4, .int .u8 x5, .int .u8 x6, .int .u8 x7])).run Tryz.prog w = .ok true w := by
 unfold Op.equalIn
 simp only [Sem.run_bind, Tryz.runUnderlying22, Result.andThen_ok]
 have hr : List.range' 0 8 = [0, 1, 2, 3, 4, 5, 6, 7] := rfl
 have e (a b : Int) (w : World) : (Op.equalIn (d + 1) 5 (.int .u8 a) (.int .u8 b)).run Tryz.prog w = .ok (a == b) w := run_equalIn_int w d 5 .u8 .u8 a b Tryz.underlying5
 simp [go_sem, hr, e]
theorem Rg.same (r : Rg) (w : World) : (Op.equalIn 10000 25 r.v r.v).run Tryz.prog w = .ok true w := by
 obtain ⟨a, f, b, c, d, e, h, l, x0, x1, x2, x3, x4, x5, x6, x7, ix, iy, sp, pc, wz, i, r, im, px, q1, q2, ht, dl⟩ := r
 have e8 (a b : Int) (w : World) : (Op.equalIn 9999 5 (.int .u8 a) (.int .u8 b)).run Tryz.prog w = .ok (a == b) w := run_equalIn_int w 9998 5 .u8 .u8 a b Tryz.underlying5
 have e16 (a b : Int) (w : World) : (Op.equalIn 9999 23 (.int .u16 a) (.int .u16 b)).run Tryz.prog w = .ok (a == b) w := run_equalIn_int w 9998 23 .u16 .u16 a b Tryz.underlying23
 have eb (a b : Bool) (w : World) : (Op.equalIn 9999 4 (.bool a) (.bool b)).run Tryz.prog w = .ok (a == b) w := run_equalIn_bool w 9998 4 a b Tryz.underlying4
 have ea := Zed 9997 x0 x1 x2 x3 x4 x5 x6 x7
 simp only [Nat.reduceAdd] at ea
 unfold Rg.v Rg.cells
 rw [run_equalIn_struct w 9999 25 _ _ Tryz.underlying25 (by kernel_rfl)]
 simp [go_sem, e8, e16, eb, ea]
def Zz (m : Nat → Nat) : List Value := (List.range 65536).map fun i => .int .u8 (m i : Int)
theorem ZE (m : Nat → Nat) : (Zz m).length = 65536 := by simp [Zz]
theorem Y4 (m : Nat → Nat) (a : Nat) (h : a < 65536) : (Zz m)[a]? = some (.int .u8 (m a : Int)) := by
 unfold Zz
 rw [List.getElem?_map, List.getElem?_range h]
 rfl
theorem Ju (m : Nat → Nat) (a v : Nat) : (Zz m).set a (.int .u8 (v : Int)) = Zz (upd m a v) := by
 apply List.ext_getElem?
 intro i
 rw [List.getElem?_set]
 by_cases hi : i < 65536
 ·rw [Y4 _ i hi, Y4 _ i hi]
  by_cases h : a = i
  ·subst h; simp [ZE, hi, upd]
  ·have : ¬ i = a := fun e => h e.symm
   simp [h, upd, this]
 ·have e1 : (Zz m)[i]? = none := by rw [List.getElem?_eq_none]; rw [ZE]; omega
  have e2 : (Zz (upd m a v))[i]? = none := by rw [List.getElem?_eq_none]; rw [ZE]; omega
  rw [e1, e2]
  by_cases h : a = i
  ·subst h; simp [ZE, hi]
  ·simp [h]
theorem Zee (xs : List Int) (x : Int) : zE xs ++ [.int .i64 x] = zE (xs ++ [x]) := by simp [zE]
abbrev Zj := List (Nat × TypeId × List Value)
def JV (X : Zj) (b : Nat) (u : U) : Prop :=
 ∃ gm lv R, X = (b, 39, [.slice (some ⟨gm, 0, none⟩) 65536 65536, lv]) :: (gm, 5, Zz u.m) :: R ∧ Yv 3 1 R lv u.g.length (zE u.g)
structure U.Good (u : U) (n : Nat) : Prop where
 m8 : ∀ i, u.m i < 256
 len : u.g.length + n ≤ 1000000
theorem U.Good.less {u : U} {n k : Nat} (h : u.Good n) (hk : k ≤ n) : u.Good k := ⟨h.m8, by have := h.len; omega⟩
structure Bx (W0 w : World) (b : Nat) (u : U) (l : Zj) (n : Nat) : Prop where
 good : u.Good n
 own : ∃ X, JV X b u ∧ Own W0 w (l ++ X)
section
variable {W0 w w' : World} {b n k : Nat} {u : U} {l l' : Zj}
theorem Bx.perm (h : Bx W0 w b u l n) (hp : l.Perm l') : Bx W0 w b u l' n := by
 obtain ⟨hg, X, hX, hO⟩ := h
 exact ⟨hg, X, hX, hO.perm (hp.append_right X)⟩
theorem Bx.less (h : Bx W0 w b u l n) (hk : k ≤ n) : Bx W0 w b u l k := ⟨h.good.less hk, h.own⟩
theorem Bx.call (h : Bx W0 w b u l n) (hb : Below w.heap.size w w') : Bx W0 w' b u l n := by
 obtain ⟨hg, X, hX, hO⟩ := h
 exact ⟨hg, X, hX, hO.call hb⟩
theorem Bx.drop {e : Nat × TypeId × List Value} (h : Bx W0 w b u (e :: l) n) : Bx W0 w b u l n := by
 obtain ⟨hg, X, hX, hO⟩ := h
 exact ⟨hg, X, hX, hO.forget⟩
end
theorem int_info' : (Tryz.prog.info? 3).map (fun i => (i.zero, i.size, i.bytes)) = some (some (.int .i64 0), 1, 8) := by kernel_rfl
theorem int_parts' : ∃ i : TypeInfo, Tryz.prog.info? 3 = some i ∧ i.zero = some (.int .i64 0) ∧ i.size = 1 ∧ i.bytes = 8 := by
 have h := int_info'
 cases hq : Tryz.prog.info? 3 with
 | none => rw [hq] at h; simp at h
 | some i => rw [hq] at h; simp at h; exact ⟨i, rfl, h.1, h.2.1, h.2.2⟩
theorem Y7 {W0 w : World} {l : Zj} {ops : Array Oper} {rest : List Oper} {o : Oper} {a : Act} {Q : Exit → Act → World → Prop} {g3 : Nat} {t3 : TypeId} {L R : Zj} {v : Value} {g : List Int} {x : Int} {s y : Operand}
  (HM : Hid (Own W0 w l)) (hp : l.Perm ((g3, t3, [.int .i64 x]) :: (L ++ R))) (HR : Hid (Yv 3 1 R v g.length (zE g))) (hn : Hid (g.length + 1 ≤ 1000000)) (hgd : o.guard = none)
  (ho : o.op = .call { callee := .builtin .append, args := #[s, y], argTypes := #[37, 37] }) (hs : a.eval s = v) (hy : a.eval y = .slice (some ⟨g3, 0, none⟩) 1 1)
  (h : ∀ gg cap w' R', Hid (Yv 3 1 R' (.slice (some ⟨gg, 0, none⟩) (g.length + 1) cap) (g ++ [x]).length (zE (g ++ [x]))) → Hid (Own W0 w' (L ++ R')) → wpList Tryz.prog ops Q rest (a.put o.dst (.slice (some ⟨gg, 0, none⟩) (g.length + 1) cap)) w') : wpList Tryz.prog ops Q (o :: rest) a w := by
 obtain ⟨i0, hi, hz0, hz1, hz2⟩ := int_parts'
 refine j6 HM hp HR.out hgd ho hs hy rfl rfl (by have := hn.out; omega) (by decide) Tryz.underlying37 hi hz0 hz1 hz2 rfl (by decide) ?_
 intro gg cap w' R' hR' hO
 refine h gg cap w' R' ?_ hO
 rw [Zee] at hR'
 rw [List.length_append]
 exact hR'
theorem Yc {P : Program} {W0 w : World} {l : List (Nat × TypeId × List Value)} {ops : Array Oper} {rest : List Oper} {o : Oper} {a : Act} {Q : Exit → Act → World → Prop} {e : TypeId} {n : Nat} {cs : List Value} (HM : Hid (Own W0 w l))
  {t : TypeId} {parts : Array (Nat × Operand)} (ho : o.op = .buildSlice t n parts) {parts' : Array (Nat × Value)} (hx : ∀ w, (Instr.buildSlice t n parts').run P w = .ok (.slice (some ⟨w.heap.size, 0, none⟩) n n) (w.alloc (.cells cs.toArray e))) (hp : (parts.map fun (i, x) => (i, a.eval x)) = parts') (hw : Region.wanted o (yielded ops a.tmps) = true)
  (h : ∀ w' g, Hid (Own W0 w' ((g, e, cs) :: l)) → wpList P ops Q rest (a.put o.dst (.slice (some ⟨g, 0, none⟩) n n)) w') : wpList P ops Q (o :: rest) a w := by
 refine Zp hw fun K hK => ?_
 unfold Oper.wp execOp
 simp only [ho, Sem.run_bind, hp]
 rw [hx]
 exact hK _ _ (h _ _ (HM.out.new e cs))
theorem Zbm (x : Nat) (h : x < 256) : (x &&& 128 ||| ((x + 1) % 256 &&& 127)) = x / 128 * 128 + (x % 128 + 1) % 128 ∧ x &&& 128 < 256 ∧ (x + 1) % 256 &&& 127 < 256 := by
 refine ⟨?_, Nat.lt_of_le_of_lt Nat.and_le_left h, Nat.lt_of_le_of_lt Nat.and_le_left (Nat.mod_lt _ (by omega))⟩
 exact Nat.eq_of_beq_eq_true (Zu (show allB 256 (fun x => Nat.beq (Nat.lor (Nat.land x 128) (Nat.land (Nat.mod (Nat.add x 1) 256) 127)) (Nat.add (Nat.mul (Nat.div x 128) 128) (Nat.mod (Nat.add (Nat.mod x 128) 1) 128))) = true by decide +kernel) x h)
theorem Zg1 (r : Rg) (hr : r.r < 256) (w : World) : CB 61 #[r.v] w r.tick.v := by
 obtain ⟨x, hx⟩ : ∃ x, x = r.r := ⟨_, rfl⟩
 obtain ⟨C, hC⟩ : ∃ C, C = r.r / 128 * 128 + (r.r % 128 + 1) % 128 := ⟨_, rfl⟩
 have ht : r.tick = { r with r := C } := by unfold Rg.tick; rw [hC]
 rw [ht]
 have HX : (r.cells[22]?) = some (.int .u8 (x : Int)) := by rw [hx]; rfl
 have HC := Zb HX
 rw [← hx] at hC hr
 clear hx ht HX
 obtain ⟨b1, b2, b3⟩ := Zbm x hr
 obtain ⟨A, hA⟩ : ∃ A, x &&& 128 = A := ⟨_, rfl⟩
 obtain ⟨B, hB⟩ : ∃ B, (x + 1) % 256 &&& 127 = B := ⟨_, rfl⟩
 rw [hA] at b1 b2
 rw [hB] at b1 b3
 have e1 : bits .and .u8 (x : Int) 128 = (A : Int) := by rw [u8_and x 128 (by omega) (by omega) (by omega) (by omega), Int.toNat_natCast, ← hA]; rfl
 obtain ⟨y, hy⟩ : ∃ y, y = (x + 1) % 256 := ⟨_, rfl⟩
 have e2 : ((x : Int) + 1) % 256 = (y : Int) := by omega
 have e3 : bits .and .u8 (y : Int) 127 = (B : Int) := by rw [u8_and y 127 (by omega) (by omega) (by omega) (by omega), Int.toNat_natCast, ← hB, ← hy]; rfl
 have e4 : bits .or .u8 (A : Int) (B : Int) = (C : Int) := by rw [u8_or_nat A B b2 b3, b1, hC]
 have hx2 : (x : Int) < 256 := by omega
 clear hr hC hA hB hy b1 b2 b3
 have HM := Zb (Own.start w)
 go_enter Tryz.func61, Tryz.ntmps61
 go_wp2_with (first | (refine b0 ?_; clear HM; intro w' g' HM) | refine a6 ?_ | (refine b1 ?_; clear HM; intro w' HM) | ((with_reducible apply Yr HM); exact rfl; exact rfl; exact oneU8; (first | exact .z | exact .s .z); exact HC.out; exact rfl))
 refine bodyPost_ret (v := .agg (r.cells.set 22 (.int .u8 (C : Int))).toArray) (Zi HM Tryz.results61 _ rfl (by first | exact .z | exact .s .z) aggR) rfl ⟨rfl, Own.fin HM⟩
theorem JW (r : Rg) (hr : r.r < 256) (w : World) : CB 16 #[r.v] w r.tick.v := by
 obtain ⟨x, hx⟩ : ∃ x, x = r.r := ⟨_, rfl⟩
 obtain ⟨C, hC⟩ : ∃ C, C = r.r / 128 * 128 + (r.r % 128 + 1) % 128 := ⟨_, rfl⟩
 have ht : r.tick = { r with r := C } := by unfold Rg.tick; rw [hC]
 rw [ht]
 have HX : (r.cells[22]?) = some (.int .u8 (x : Int)) := by rw [hx]; rfl
 have HC := Zb HX
 rw [← hx] at hC hr
 clear hx ht HX
 have e1 : (x : Int) / 128 * 128 + ((x : Int) + 1) % 128 = (C : Int) := by omega
 have hx2 : (x : Int) < 256 := by omega
 clear hr hC
 have HM := Zb (Own.start w)
 go_enter Tryz.func16, Tryz.ntmps16
 go_wp2_with (first | (refine b0 ?_; clear HM; intro w' g' HM) | refine a6 ?_ | (refine b1 ?_; clear HM; intro w' HM) | ((with_reducible apply Yr HM); exact rfl; exact rfl; exact oneU8; (first | exact .z | exact .s .z); exact HC.out; exact rfl))
 refine bodyPost_ret (v := .agg (r.cells.set 22 (.int .u8 (C : Int))).toArray) (Zi HM Tryz.results16 _ rfl (by first | exact .z | exact .s .z) aggR) rfl ⟨rfl, Own.fin HM⟩
theorem oneInts : One Tryz.prog 37 := ⟨⟨_, Tryz.underlying37, rfl⟩, by kernel_rfl⟩
theorem oneU8s : One Tryz.prog 26 := ⟨⟨_, Tryz.underlying26, rfl⟩, by kernel_rfl⟩
theorem KZ (x : Int) (w : World) : (Instr.buildSlice 37 1 #[(0, .int .i64 x)]).run Tryz.prog w = .ok (.slice (some ⟨w.heap.size, 0, none⟩) 1 1) (w.alloc (.cells [Value.int .i64 x].toArray 3)) := by kernel_rfl
theorem Bx.out {W0 w : World} {b n : Nat} {m : Nat → Nat} {g : List Int} {l : Zj} (h : Bx W0 w b ⟨m, g⟩ l (n + 1)) :
  (∀ i, m i < 256) ∧ g.length + 1 + n ≤ 1000000 ∧ ∃ gm lv R N, N = 65536 ∧ Yv 3 1 R lv g.length (zE g) ∧ Own W0 w ((b, 39, [.slice (some ⟨gm, 0, none⟩) N N, lv]) :: (gm, 5, Zz m) :: (R ++ l)) := by
 obtain ⟨⟨h8, hl⟩, X, ⟨gm, lv, R, rfl, hR⟩, hO⟩ := h
 have hl' : g.length + (n + 1) ≤ 1000000 := hl
 exact ⟨h8, by omega, gm, lv, R, 65536, rfl, hR, hO.perm List.perm_append_comm⟩
theorem Bx.back {W0 w : World} {b n gm N : Nat} {m : Nat → Nat} {g : List Int} {l R : Zj} {lv : Value} (h8 : ∀ i, m i < 256) (hl : g.length + n ≤ 1000000) (hN : N = 65536) (hR : Yv 3 1 R lv g.length (zE g))
  (h : Own W0 w ((b, 39, [.slice (some ⟨gm, 0, none⟩) N N, lv]) :: (gm, 5, Zz m) :: (l ++ R))) : Bx W0 w b ⟨m, g⟩ l n := by
 subst hN
 exact ⟨⟨h8, hl⟩, _, ⟨gm, lv, R, rfl, hR⟩, h.perm (((List.perm_append_comm.cons _).cons _).trans (List.perm_append_comm (l₁ := _ :: _ :: R)))⟩
theorem Ji {g : List Int} {x : Int} {n : Nat} (h : g.length + 1 + n ≤ 1000000) : (g ++ [x]).length + n ≤ 1000000 := by rw [List.length_append]; exact h
theorem Zef {W0 w : World} {b n : Nat} {u : U} {l : Zj} (a : Nat) (ha : a < 65536) (h : Hid (Bx W0 w b u l (n + 1))) :
  CX 247 #[.pointer (some ⟨b, 0, none⟩), .int .u16 (a : Int)] w (.int .u8 (u.m a : Int)) fun w' => Hid (Bx W0 w' b (u.rd a) l n) := by
 obtain ⟨m, g⟩ := u
 obtain ⟨h8, hl, gm, lv, R, N, hN, hR, hO⟩ := h.out.out
 have H8 := Zb h8
 have HR := Zb hR
 have HM := Zb hO
 have HNN := Zb hN
 have HN : Hid (g.length + 1 ≤ 1000000) := Zb (by omega)
 have HL := Zb hl
 have HA := Zb ha
 have ha2 : (a : Int) < 65536 := by omega
 have ha4 : (a : Int) < (N : Int) := by omega
 clear ha
 clear h h8 hR hO hl hN
 have tg1 : Hid True := trivial
 go_enter Tryz.func247, Tryz.ntmps247
 go_wp2_with (first | (refine a0 ?_; (first | (clear tg1 HM; intro w' g1 HM) | (clear HM; intro w' g' HM))) | refine b2 ?_ | (refine a43 ?_; clear HM; intro w' HM) | (refine a65 ?_; clear tg1; intro w' g1 HM'; clear HM; have HM := HM'; clear HM') | (refine Y7 (x := (a : Int)) (L := _ :: _ :: l) HM (((List.perm_append_comm.cons _).cons _).cons _) HR HN rfl rfl rfl rfl ?_; intro gg cap w1 R1 HR' HM'; clear HM HR; have HM : Hid (Own W0 w1 (_ :: _ :: (l ++ R1))) := HM'; have HR := HR'; clear HM' HR'))
 go_ret
 exact ⟨rfl, Bx.back H8.out (n := n) (Ji HL.out) HNN.out HR.out HM.out⟩
theorem Zbn {W0 w : World} {b n : Nat} {u : U} {l : Zj} (a v : Nat) (ha : a < 65536) (hv : v < 256) (h : Hid (Bx W0 w b u l (n + 1))) :
  CX 248 #[.pointer (some ⟨b, 0, none⟩), .int .u16 (a : Int), .int .u8 (v : Int)] w (.tuple #[]) fun w' => Hid (Bx W0 w' b (u.wr a v) l n) := by
 obtain ⟨m, g⟩ := u
 obtain ⟨h8, hl, gm, lv, R, N, hN, hR, hO⟩ := h.out.out
 have H8 := Zb h8
 have HR := Zb hR
 have HM := Zb hO
 have HNN := Zb hN
 have HN : Hid (g.length + 1 ≤ 1000000) := Zb (by omega)
 have HL := Zb hl
 have HA := Zb ha
 have ha2 : (a : Int) < 65536 := by omega
 have ha4 : (a : Int) < (N : Int) := by omega
 clear ha
 have HV := Zb hv
 have hv2 : (v : Int) < 256 := by omega
 clear hv
 clear h h8 hR hO hl hN
 have tg1 : Hid True := trivial
 go_enter Tryz.func248, Tryz.ntmps248
 go_wp2_with (first | (refine a0 ?_; (first | (clear tg1 HM; intro w' g1 HM) | (clear HM; intro w' g' HM))) | refine a42 ?_ | (refine a43 ?_; clear HM; intro w' HM) | (refine a55 ?_; clear tg1; intro w' g1 HM'; clear HM; have HM := HM'; clear HM') | (refine Y7 (x := (1000000 + (a : Int) * 256 + (v : Int))) (L := _ :: _ :: l) HM (((List.perm_append_comm.cons _).cons _).cons _) HR HN rfl rfl rfl rfl ?_; intro gg cap w1 R1 HR' HM'; clear HM HR; have HM : Hid (Own W0 w1 (_ :: _ :: (l ++ R1))) := HM'; have HR := HR'; clear HM' HR') | ((with_reducible apply JK HM (v := .int .u8 (v : Int)) (cs := Zz m)); exact rfl; exact rfl; exact rfl; exact .s .z; exact .s .z; exact oneU8.size; exact rfl; exact rfl; (rw [ZE]; exact HA.out); exact rfl; clear HM; intro w' HM))
 go_end0
 exact ⟨rfl, Bx.back (Zbl H8.out a v HV.out) (n := n) (Ji HL.out) HNN.out HR.out (Ju m a v ▸ HM.out)⟩
theorem Zg2 {W0 w : World} {b n : Nat} {u : U} {l : Zj} (p v t : Nat) (hp : p < 65536) (hv : v < 256) (ht : t < 64) (h : Hid (Bx W0 w b u l (n + 1))) :
  CX 246 #[.pointer (some ⟨b, 0, none⟩), .int .u16 (p : Int), .int .u8 (v : Int), .int .i64 (t : Int)] w (.tuple #[]) fun w' => Hid (Bx W0 w' b (u.op p v t) l n) := by
 obtain ⟨m, g⟩ := u
 obtain ⟨h8, hl, gm, lv, R, N, hN, hR, hO⟩ := h.out.out
 have H8 := Zb h8
 have HR := Zb hR
 have HM := Zb hO
 have HNN := Zb hN
 have HN : Hid (g.length + 1 ≤ 1000000) := Zb (by omega)
 have HL := Zb hl
 have hp2 : (p : Int) < 65536 := by omega
 have ht2 : (t : Int) < 64 := by omega
 clear hp ht
 have hv2 : (v : Int) < 256 := by omega
 clear hv
 clear h h8 hR hO hl hN
 have tg1 : Hid True := trivial
 go_enter Tryz.func246, Tryz.ntmps246
 go_wp2_with (first | (refine a0 ?_; (first | (clear tg1 HM; intro w' g1 HM) | (clear HM; intro w' g' HM))) | refine a42 ?_ | (refine a43 ?_; clear HM; intro w' HM) | (refine a67 ?_; clear tg1; intro w' g1 HM'; clear HM; have HM := HM'; clear HM') | (refine Y7 (x := (1000000000 + ((p : Int) * 64 + (t : Int)) * 256 + (v : Int))) (L := _ :: _ :: l) HM (((List.perm_append_comm.cons _).cons _).cons _) HR HN rfl rfl rfl rfl ?_; intro gg cap w1 R1 HR' HM'; clear HM HR; have HM : Hid (Own W0 w1 (_ :: _ :: (l ++ R1))) := HM'; have HR := HR'; clear HM' HR'))
 go_end0
 exact ⟨rfl, Bx.back H8.out (n := n) (Ji HL.out) HNN.out HR.out HM.out⟩
theorem Zki {W0 w : World} {b n : Nat} {u : U} {l : Zj} (p t : Nat) (hp : p < 65536) (ht : t < 64) (h : Hid (Bx W0 w b u l (n + 1))) :
  CX 245 #[.pointer (some ⟨b, 0, none⟩), .int .u16 (p : Int), .int .i64 (t : Int)] w (.int .u8 (u.ipV p t : Int)) fun w' => Hid (Bx W0 w' b (u.ip p t) l n) := by
 obtain ⟨m, g⟩ := u
 obtain ⟨h8, hl, gm, lv, R, N, hN, hR, hO⟩ := h.out.out
 have H8 := Zb h8
 have HR := Zb hR
 have HM := Zb hO
 have HNN := Zb hN
 have HN : Hid (g.length + 1 ≤ 1000000) := Zb (by omega)
 have HL := Zb hl
 have hp2 : (p : Int) < 65536 := by omega
 have ht2 : (t : Int) < 64 := by omega
 clear hp ht
 have hg2 : (g.length : Int) + 1 ≤ 1000000 := by omega
 clear h h8 hR hO hl hN
 have tg1 : Hid True := trivial
 go_enter Tryz.func245, Tryz.ntmps245
 go_wp2_with (first | (refine a0 ?_; (first | (clear tg1 HM; intro w' g1 HM) | (clear HM; intro w' g' HM))) | refine a42 ?_ | (refine a43 ?_; clear HM; intro w' HM) | (refine a68 ?_; clear tg1; intro w' g1 HM'; clear HM; have HM := HM'; clear HM') | (refine Y7 (x := (100000000 + (p : Int) * 64 + (t : Int))) (L := _ :: _ :: l) HM (((List.perm_append_comm.cons _).cons _).cons _) HR HN rfl rfl rfl rfl ?_; intro gg cap w1 R1 HR' HM'; clear HM HR; have HM : Hid (Own W0 w1 (_ :: _ :: (l ++ R1))) := HM'; have HR := HR'; clear HM' HR'))
 go_ret
 exact ⟨rfl, Bx.back H8.out (n := n) (Ji HL.out) HNN.out HR.out HM.out⟩
def KT (op : Int) (a : Nat) : Nat := if op = 0 then 255 - a else a
def Vk (op : Int) (a f : Nat) : Nat := if op = 0 then Zbh a f else if op = 1 then Zbi a f else if op = 2 then Zbj a f else f
theorem K2 (op : Int) (a : Nat) (h : a < 256) : KT op a < 256 := by unfold KT; split <;> omega
theorem K3 (op : Int) (a f : Nat) (h : f < 256) : Vk op a f < 256 := by
 unfold Vk
 split
 ·exact Zm _ _ _ _ _ _ _ _
 ·split
  ·exact Zm _ _ _ _ _ _ _ _
  ·split
   ·exact Zm _ _ _ _ _ _ _ _
   ·exact h
def Zeb (k a b f : Nat) : Nat :=
 match k with
 | 0 => Yw a b 0 | 1 => Yw a b (cond (Zf 1 f) 1 0) | 2 => ZY a b 0 | 3 => ZY a b (cond (Zf 1 f) 1 0)
 | 4 => a &&& b | 5 => a ^^^ b | 6 => a ||| b | _ => a
def Zec (k a b f : Nat) : Nat :=
 match k with
 | 0 => Yp a b 0 | 1 => Yp a b (cond (Zf 1 f) 1 0) | 2 => ZU a b 0 | 3 => ZU a b (cond (Zf 1 f) 1 0)
 | 4 => nBitsF (a &&& b) true | 5 => nBitsF (a ^^^ b) false | 6 => nBitsF (a ||| b) false | _ => ZgY a b
theorem Up (k a b f : Nat) (hk : k < 8) (ha : a < 256) (hb : b < 256) : Zeb k a b f < 256 := by
 match k, hk with
 | 0, _ => exact YL _ _ _
 | 1, _ => exact YL _ _ _
 | 2, _ => exact Yn _ _ _
 | 3, _ => exact Yn _ _ _
 | 4, _ => exact vC ha
 | 5, _ => exact ZgZ ha hb
 | 6, _ => exact or8 ha hb
 | 7, _ => exact ha
theorem Uq (k a b f : Nat) (hk : k < 8) : Zec k a b f < 256 := by
 match k, hk with
 | 0, _ => exact JU _ _ _
 | 1, _ => exact JU _ _ _
 | 2, _ => exact YM _ _ _
 | 3, _ => exact YM _ _ _
 | 4, _ => exact YV _ _
 | 5, _ => exact YV _ _
 | 6, _ => exact YV _ _
 | 7, _ => exact Zg0 _ _
def Zx (v : Nat) : Nat := Nat.div v 256
def Yu (a b c : Nat) : Nat := Nat.mod (Nat.add (Nat.add a b) c) 65536
def Kq (a b c : Nat) : Bool := Nat.ble 4096 (Nat.add (Nat.add (Nat.mod a 4096) (Nat.mod b 4096)) c)
def vH (a b c : Nat) : Bool := Nat.ble 65536 (Nat.add (Nat.add a b) c)
def JI (a : Nat) : Nat := Nat.mod (Nat.add a 32768) 65536
def Ur (t : Nat) : Bool := not (and (Nat.ble 32768 t) (Nat.ble t 98303))
def VQ (a b c : Nat) : Nat := Zq false false false (Kq a b c) false false false (vH a b c)
def VR (a b f : Nat) : Nat :=
 Zq (Zf 128 f) (Zf 64 f) (Zf 32 (Zx (Yu a b 0))) (Kq a b 0) (Zf 8 (Zx (Yu a b 0))) (Zf 4 f) false (vH a b 0)
def JX (a b c : Nat) : Nat :=
 Zq (nS (Zx (Yu a b c))) (nZ (Yu a b c)) (Zf 32 (Zx (Yu a b c))) (Kq a b c) (Zf 8 (Zx (Yu a b c))) (Ur (Nat.add (Nat.add (JI a) (JI b)) c)) false (vH a b c)
def Jg (a b c : Nat) : Nat := Nat.mod (Nat.sub (Nat.add a 131072) (Nat.add b c)) 65536
def VY (a b c : Nat) : Bool := Nat.ble (Nat.add (Nat.mod a 4096) 1) (Nat.add (Nat.mod b 4096) c)
def vI (a b c : Nat) : Bool := Nat.ble (Nat.add a 1) (Nat.add b c)
def Vl (a b c : Nat) : Nat :=
 Zq (nS (Zx (Jg a b c))) (nZ (Jg a b c)) (Zf 32 (Zx (Jg a b c))) (VY a b c) (Zf 8 (Zx (Jg a b c))) (Ur (Nat.sub (Nat.add (JI a) 65536) (Nat.add (JI b) c))) true (vI a b c)
def wMove (v b : Nat) : Nat := Nat.mod (Nat.add v (cond (Nat.ble 128 b) (Nat.add b 65280) b)) 65536
theorem Ys (a b c : Nat) : Yu a b c < 65536 := Nat.mod_lt _ (by omega)
theorem Us (a b c : Nat) : Jg a b c < 65536 := Nat.mod_lt _ (by omega)
theorem j8 (a b c : Nat) : VQ a b c < 256 := Zm _ _ _ _ _ _ _ _
theorem j9 (a b f : Nat) : VR a b f < 256 := Zm _ _ _ _ _ _ _ _
theorem Ut (a b c : Nat) : JX a b c < 256 := Zm _ _ _ _ _ _ _ _
theorem ya (a b c : Nat) : Vl a b c < 256 := Zm _ _ _ _ _ _ _ _
theorem Zt (v b : Nat) : wMove v b < 65536 := Nat.mod_lt _ (by omega)
theorem Yd (v : Nat) (h : v < 65536) : Zx v < 256 := by show v / 256 < 256; omega
theorem Zkj {a b : Nat} (h : a ≤ b) : Nat.ble a b = true := by rw [Nat.ble_eq]; exact h
theorem Zkk {a b : Nat} (h : ¬ a ≤ b) : Nat.ble a b = false := by rw [← Bool.not_eq_true, Nat.ble_eq]; exact h
theorem Vm (i a b : Nat) : (a ^^^ b) / 2 ^ i % 2 = (a / 2 ^ i + b / 2 ^ i) % 2 := by
 have h := Nat.testBit_xor a b i
 simp only [Nat.testBit_eq_decide_div_mod_eq] at h
 have ha := Nat.mod_two_eq_zero_or_one (a / 2 ^ i)
 have hb := Nat.mod_two_eq_zero_or_one (b / 2 ^ i)
 have hc := Nat.mod_two_eq_zero_or_one ((a ^^^ b) / 2 ^ i)
 rw [Nat.add_mod]
 rcases ha with ha | ha <;> rcases hb with hb | hb <;> rcases hc with hc | hc <;> simp_all
theorem Zg3 (i a b : Nat) : (a &&& b) / 2 ^ i % 2 = (a / 2 ^ i % 2) * (b / 2 ^ i % 2) := by
 have h := Nat.testBit_and a b i
 simp only [Nat.testBit_eq_decide_div_mod_eq] at h
 have ha := Nat.mod_two_eq_zero_or_one (a / 2 ^ i)
 have hb := Nat.mod_two_eq_zero_or_one (b / 2 ^ i)
 have hc := Nat.mod_two_eq_zero_or_one ((a &&& b) / 2 ^ i)
 rcases ha with ha | ha <;> rcases hb with hb | hb <;> rcases hc with hc | hc <;> simp_all
theorem JY (a b c : Nat) : Kq a b c = true ↔ 4096 ≤ a % 4096 + b % 4096 + c := by unfold Kq; rw [Nat.ble_eq]; exact Iff.rfl
theorem K4 (a b c : Nat) : vH a b c = true ↔ 65536 ≤ a + b + c := by unfold vH; rw [Nat.ble_eq]; exact Iff.rfl
theorem JZ (t : Nat) : Ur t = true ↔ ¬ (32768 ≤ t ∧ t ≤ 98303) := by
 unfold Ur
 rw [Bool.not_eq_true', ← Bool.not_eq_true, Bool.and_eq_true, Nat.ble_eq, Nat.ble_eq]
theorem Uu {b : Bool} {p : Prop} (h : b = true ↔ p) (n : ¬ p) : b = false := by rw [← Bool.not_eq_true, h]; exact n
theorem Zeg (a b c v : Nat) (_ha : a < 65536) (_hb : b < 65536) (hc : c ≤ 1) (hv : Yu a b c = v) : (Zx (a ^^^ b ^^^ v)) &&& 16 = cond (Kq a b c) 16 0 := by
 rw [show (16 : Nat) = 2 ^ 4 from rfl, nat_bit]
 have e : Zx (a ^^^ b ^^^ v) / 2 ^ 4 % 2 = (a / 4096 + b / 4096 + v / 4096) % 2 := by
  show (a ^^^ b ^^^ v) / 256 / 2 ^ 4 % 2 = _
  rw [Nat.div_div_eq_div_mul, show 256 * 2 ^ 4 = 2 ^ 12 from rfl, Vm]
  have := Vm 12 a b
  simp only [show (2 : Nat) ^ 12 = 4096 from rfl] at this ⊢
  omega
 rw [e]
 have hv' : (a + b + c) % 65536 = v := hv
 by_cases h : 4096 ≤ a % 4096 + b % 4096 + c
 ·rw [(JY a b c).2 h]
  show _ * 2 ^ 4 = 2 ^ 4
  have : (a / 4096 + b / 4096 + v / 4096) % 2 = 1 := by omega
  rw [this]
 ·rw [Uu (JY a b c) h]
  show _ * 2 ^ 4 = 0
  have : (a / 4096 + b / 4096 + v / 4096) % 2 = 0 := by omega
  rw [this]
theorem Zg4 (a b c : Nat) (ha : a < 65536) (hb : b < 65536) (hc : c ≤ 1) : ((a + b + c) / 65536) &&& 1 = cond (vH a b c) 1 0 := by
 rw [Nat.and_one_is_mod]
 by_cases h : 65536 ≤ a + b + c
 ·rw [(K4 a b c).2 h]
  show _ = 1
  omega
 ·rw [Uu (K4 a b c) h]
  show _ = 0
  omega
theorem Zbo (a b c v : Nat) (ha : a < 65536) (hb : b < 65536) (hc : c ≤ 1) (hv : Yu a b c = v) :
  (((a + b + c) / 65536 &&& 1) ||| (Zx (a ^^^ b ^^^ v) &&& 16)) = VQ a b c := by
 rw [Zeg a b c v ha hb hc hv, Zg4 a b c ha hb hc]
 unfold VQ
 cases Kq a b c <;> cases vH a b c <;> rfl
theorem Zeh (a b c v : Nat) (ha : a < 65536) (hb : b < 65536) (hc : c ≤ 1) (hv : Yu a b c = v) :
  (((a ^^^ v) &&& (b ^^^ v)) / 8192) &&& 4 = cond (Ur (Nat.add (Nat.add (JI a) (JI b)) c)) 4 0 := by
 rw [show (4 : Nat) = 2 ^ 2 from rfl, nat_bit]
 rw [Nat.div_div_eq_div_mul, show 8192 * 2 ^ 2 = 2 ^ 15 from rfl, Zg3, Vm, Vm]
 have hv' : (a + b + c) % 65536 = v := hv
 simp only [show (2 : Nat) ^ 15 = 32768 from rfl]
 obtain ⟨s, hs⟩ : ∃ s, Nat.add (Nat.add (JI a) (JI b)) c = s := ⟨_, rfl⟩
 rw [hs]
 have hs' : (a + 32768) % 65536 + (b + 32768) % 65536 + c = s := hs
 by_cases h : 32768 ≤ s ∧ s ≤ 98303
 ·rw [Uu (JZ s) (fun n => n h)]
  show _ = 0
  have : (a / 32768 + v / 32768) % 2 = 0 ∨ (b / 32768 + v / 32768) % 2 = 0 := by omega
  rcases this with e | e <;> rw [e] <;> simp
 ·have : (a / 32768 + v / 32768) % 2 = 1 ∧ (b / 32768 + v / 32768) % 2 = 1 := by omega
  rw [this.1, this.2, (JZ s).2 h]
  rfl
theorem vJ (v : Nat) (h : v < 256) : v &&& 168 = Zq (nS v) false (Zf 32 v) false (Zf 8 v) false false false :=
 Nat.eq_of_beq_eq_true (Zu (show allB 256 (fun v => Nat.beq (Nat.land v 168) (Zq (nS v) false (Zf 32 v) false (Zf 8 v) false false false)) = true by decide +kernel) v h)
theorem vK (v : Nat) (h : v < 256) : v &&& 40 = Zq false false (Zf 32 v) false (Zf 8 v) false false false :=
 Nat.eq_of_beq_eq_true (Zu (show allB 256 (fun v => Nat.beq (Nat.land v 40) (Zq false false (Zf 32 v) false (Zf 8 v) false false false)) = true by decide +kernel) v h)
theorem Zbp (v : Nat) (h : v < 256) : v &&& 196 = Zq (Zf 128 v) (Zf 64 v) false false false (Zf 4 v) false false :=
 Nat.eq_of_beq_eq_true (Zu (show allB 256 (fun v => Nat.beq (Nat.land v 196) (Zq (Zf 128 v) (Zf 64 v) false false false (Zf 4 v) false false)) = true by decide +kernel) v h)
theorem vL (a b f v t g : Nat) (hf : f < 256) (hv : Yu a b 0 = v) (ht : VQ a b 0 = t) (hg : VR a b f = g) : (t ||| (f &&& 196)) ||| (Zx v &&& 40) = g := by
 have v1 : v < 65536 := hv ▸ Ys _ _ _
 rw [Zbp f hf, vK _ (Yd v v1), ← ht, ← hg]
 unfold VQ VR
 rw [hv]
 generalize Zf 128 f = s; generalize Zf 64 f = z; generalize Zf 4 f = p; generalize Zf 32 (Zx v) = y; generalize Zf 8 (Zx v) = x; generalize Kq a b 0 = h; generalize vH a b 0 = c
 cases s <;> cases z <;> cases p <;> cases y <;> cases x <;> cases h <;> cases c <;> rfl
theorem vM (a b c v t g z : Nat) (ha : a < 65536) (hb : b < 65536) (hc : c ≤ 1) (hv : Yu a b c = v) (ht : VQ a b c = t) (hg : JX a b c = g) (hz : cond (nZ v) 64 0 = z) :
  ((t ||| ((((a ^^^ v) &&& (b ^^^ v)) / 8192) &&& 4)) ||| (Zx v &&& 168)) ||| z = g := by
 have v1 : v < 65536 := hv ▸ Ys _ _ _
 rw [Zeh a b c v ha hb hc hv, vJ _ (Yd v v1), ← ht, ← hg, ← hz]
 unfold VQ JX
 rw [hv]
 generalize Ur _ = p; generalize nS (Zx v) = s; generalize nZ v = z; generalize Zf 32 (Zx v) = y; generalize Zf 8 (Zx v) = x; generalize Kq a b c = h; generalize vH a b c = c
 cases s <;> cases z <;> cases p <;> cases y <;> cases x <;> cases h <;> cases c <;> rfl
theorem zN (a b c : Nat) (ha : a < 65536) (hb : b < 65536) (hc : c ≤ 1) : Yu a (65535 - b) (1 - c) = Jg a b c ∧ (JX a (65535 - b) (1 - c) ^^^ 17) ||| 2 = Vl a b c := by
 have hv : Yu a (65535 - b) (1 - c) = Jg a b c := by
  show (a + (65535 - b) + (1 - c)) % 65536 = (a + 131072 - (b + c)) % 65536
  omega
 refine ⟨hv, ?_⟩
 unfold JX Vl
 rw [hv]
 have e1 : Kq a (65535 - b) (1 - c) = not (VY a b c) := by
  unfold Kq VY
  rw [Bool.eq_iff_iff, Bool.not_eq_true', Bool.eq_false_iff]
  simp only [ne_eq, Nat.ble_eq]
  show 4096 ≤ a % 4096 + (65535 - b) % 4096 + (1 - c) ↔ ¬ (a % 4096 + 1 ≤ b % 4096 + c)
  omega
 have e2 : vH a (65535 - b) (1 - c) = not (vI a b c) := by
  unfold vH vI
  rw [Bool.eq_iff_iff, Bool.not_eq_true', Bool.eq_false_iff]
  simp only [ne_eq, Nat.ble_eq]
  show 65536 ≤ a + (65535 - b) + (1 - c) ↔ ¬ (a + 1 ≤ b + c)
  omega
 have e3 : Nat.add (Nat.add (JI a) (JI (65535 - b))) (1 - c) = Nat.sub (Nat.add (JI a) 65536) (Nat.add (JI b) c) := by
  show (a + 32768) % 65536 + (65535 - b + 32768) % 65536 + (1 - c) = (a + 32768) % 65536 + 65536 - ((b + 32768) % 65536 + c)
  omega
 rw [e1, e2, e3]
 generalize nS (Zx (Jg a b c)) = s
 generalize nZ (Jg a b c) = z
 generalize Zf 32 (Zx (Jg a b c)) = y
 generalize Zf 8 (Zx (Jg a b c)) = x
 generalize VY a b c = h
 generalize vI a b c = k
 generalize Ur _ = p
 cases s <;> cases z <;> cases y <;> cases h <;> cases x <;> cases p <;> cases k <;> rfl
def tUp (v i : Nat) : Nat := Nat.add (Nat.mod (Nat.mul v 2) 256) i
def tDn (v i : Nat) : Nat := Nat.add (Nat.div v 2) (Nat.mul 128 i)
def tV (k v c : Nat) : Nat :=
 match k with
 | 0 => tUp v (Nat.div v 128) | 1 => tDn v (Nat.mod v 2) | 2 => tUp v c | 3 => tDn v c
 | 4 => tUp v 0 | 5 => tDn v (Nat.div v 128) | 6 => tUp v 1 | _ => tDn v 0
def tO (k v : Nat) : Nat :=
 match k with
 | 0 => Nat.div v 128 | 1 => Nat.mod v 2 | 2 => Nat.div v 128 | 3 => Nat.mod v 2
 | 4 => Nat.div v 128 | 5 => Nat.mod v 2 | 6 => Nat.div v 128 | _ => Nat.mod v 2
def We (r : Nat) (c : Bool) : Nat := Zq (nS r) (nZ r) (Zf 32 r) false (Zf 8 r) (Jt r) false c
def Yl (k v c : Nat) : Nat := We (tV k v c) (Nat.beq (tO k v) 1)
def Yj (k v c f : Nat) : Nat := Zq (Zf 128 f) (Zf 64 f) (Zf 32 (tV k v c)) false (Zf 8 (tV k v c)) (Zf 4 f) false (Nat.beq (tO k v) 1)
def tOn (k v : Nat) : Bool := Nat.beq (Nat.mod (Nat.div v (Nat.pow 2 k)) 2) 1
def Jj (k v f b : Nat) : Nat := Zq (and (tOn k v) (Nat.beq k 7)) (not (tOn k v)) (Zf 32 b) true (Zf 8 b) (not (tOn k v)) false (Zf 1 f)
def KU (k v : Nat) (on : Bool) : Nat := Nat.add (Nat.sub v (Nat.mul (Nat.mod (Nat.div v (Nat.pow 2 k)) 2) (Nat.pow 2 k))) (cond on (Nat.pow 2 k) 0)
def Uv (left : Bool) (a m : Nat) : Nat := Nat.add (Nat.mul (Nat.div a 16) 16) (cond left (Nat.div m 16) (Nat.mod m 16))
def Wf (left : Bool) (a m : Nat) : Nat := cond left (Nat.add (Nat.mul (Nat.mod m 16) 16) (Nat.mod a 16)) (Nat.add (Nat.mul (Nat.mod a 16) 16) (Nat.div m 16))
def Wg (left : Bool) (a m f : Nat) : Nat := We (Uv left a m) (Zf 1 f)
theorem Zgn (v i : Nat) (hi : i ≤ 1) : tUp v i < 256 := by show v * 2 % 256 + i < 256; omega
theorem Zgo (v i : Nat) (hv : v < 256) (hi : i ≤ 1) : tDn v i < 256 := by show v / 2 + 128 * i < 256; omega
theorem Zg5 (k v : Nat) (hv : v < 256) : tO k v ≤ 1 := by
 have h1 : Nat.div v 128 ≤ 1 := by show v / 128 ≤ 1; omega
 have h2 : Nat.mod v 2 ≤ 1 := by show v % 2 ≤ 1; omega
 unfold tO; split <;> assumption
theorem JL (k v c : Nat) (hv : v < 256) (hc : c ≤ 1) : tV k v c < 256 := by
 have h1 : Nat.div v 128 ≤ 1 := by show v / 128 ≤ 1; omega
 have h2 : Nat.mod v 2 ≤ 1 := by show v % 2 ≤ 1; omega
 unfold tV; split <;> first | exact Zgn _ _ (by assumption) | exact Zgn _ _ (by omega) | exact Zgo _ _ hv (by assumption) | exact Zgo _ _ hv (by omega)
theorem Uw (k v c : Nat) : Yl k v c < 256 := Zm _ _ _ _ _ _ _ _
theorem Y5 (k v c f : Nat) : Yj k v c f < 256 := Zm _ _ _ _ _ _ _ _
theorem Ux (k v f b : Nat) : Jj k v f b < 256 := Zm _ _ _ _ _ _ _ _
theorem Jv (left : Bool) (a m : Nat) (ha : a < 256) (hm : m < 256) : Uv left a m < 256 := by
 cases left
 ·show a / 16 * 16 + m % 16 < 256; omega
 ·show a / 16 * 16 + m / 16 < 256; omega
theorem K5 (left : Bool) (a m : Nat) (_ha : a < 256) (hm : m < 256) : Wf left a m < 256 := by
 cases left
 ·show a % 16 * 16 + m / 16 < 256; omega
 ·show m % 16 * 16 + a % 16 < 256; omega
theorem Kt (k v : Nat) (on : Bool) (hk : k < 8) (hv : v < 256) : KU k v on < 256 := by
 have h := Yb (n := 8) (m := 256) (p := fun k v => and (Nat.blt (KU k v true) 256) (Nat.blt (KU k v false) 256)) (by decide +kernel) k v hk hv
 rw [Bool.and_eq_true, Nat.blt_eq, Nat.blt_eq] at h
 cases on
 ·exact h.2
 ·exact h.1
theorem Zg6 (v i : Nat) (hv : v < 256) (hi : i ≤ 1) : (v * 2 % 256) ||| i = tUp v i :=
 Nat.eq_of_beq_eq_true (Yb (n := 256) (m := 2) (p := fun v i => Nat.beq (Nat.lor (Nat.mod (Nat.mul v 2) 256) i) (tUp v i)) (by decide +kernel) v i hv (by omega))
theorem Zg7 (v i : Nat) (hv : v < 256) (hi : i ≤ 1) : (i * 128) ||| (v / 2) = tDn v i :=
 Nat.eq_of_beq_eq_true (Yb (n := 256) (m := 2) (p := fun v i => Nat.beq (Nat.lor (Nat.mul i 128) (Nat.div v 2)) (tDn v i)) (by decide +kernel) v i hv (by omega))
theorem Vn (r o s : Nat) (ho : o ≤ 1) (hs : nBitsF r false = s) : s ||| o = We r (Nat.beq o 1) := by
 rw [← hs]
 unfold We nBitsF
 have h : o = 0 ∨ o = 1 := by omega
 generalize nS r = s; generalize nZ r = z; generalize Zf 32 r = y; generalize Zf 8 r = x; generalize Jt r = p
 rcases h with rfl | rfl <;> cases s <;> cases z <;> cases y <;> cases x <;> cases p <;> rfl
theorem zO (f : Nat) (h : f < 256) : f &&& 1 = cond (Zf 1 f) 1 0 :=
 Nat.eq_of_beq_eq_true (Zu (show allB 256 (fun v => Nat.beq (Nat.land v 1) (cond (Zf 1 v) 1 0)) = true by decide +kernel) f h)
theorem Vo (v : Nat) (h : v < 256) : v &&& 40 = Zq false false (Zf 32 v) false (Zf 8 v) false false false :=
 Nat.eq_of_beq_eq_true (Zu (show allB 256 (fun v => Nat.beq (Nat.land v 40) (Zq false false (Zf 32 v) false (Zf 8 v) false false false)) = true by decide +kernel) v h)
theorem vN (v : Nat) (h : v < 256) : v &&& 196 = Zq (Zf 128 v) (Zf 64 v) false false false (Zf 4 v) false false :=
 Nat.eq_of_beq_eq_true (Zu (show allB 256 (fun v => Nat.beq (Nat.land v 196) (Zq (Zf 128 v) (Zf 64 v) false false false (Zf 4 v) false false)) = true by decide +kernel) v h)
theorem Zbq (s z y h x p n c : Bool) : Zq s z y h x p n c &&& 1 = cond c 1 0 := by
 cases s <;> cases z <;> cases y <;> cases h <;> cases x <;> cases p <;> cases n <;> cases c <;> rfl
theorem Zg8 (k v c g : Nat) (hv : v < 256) (hg : Yl k v c = g) : g &&& 1 = tO k v := by
 rw [← hg]
 unfold Yl We
 rw [Zbq]
 have h := Zg5 k v hv
 have h2 : tO k v = 0 ∨ tO k v = 1 := by omega
 rcases h2 with e | e <;> rw [e] <;> rfl
theorem vO (k v c f r o g : Nat) (hv : v < 256) (hf : f < 256) (hc : c ≤ 1) (hr : tV k v c = r) (ho : tO k v = o) (hg : Yj k v c f = g) : ((f &&& 196) ||| (r &&& 40)) ||| o = g := by
 have r1 : r < 256 := hr ▸ JL k v c hv hc
 have o1 : o ≤ 1 := ho ▸ Zg5 k v hv
 rw [vN f hf, Vo r r1, ← hg]
 unfold Yj
 rw [hr, ho]
 have h2 : o = 0 ∨ o = 1 := by omega
 generalize Zf 128 f = s; generalize Zf 64 f = z; generalize Zf 4 f = p; generalize Zf 32 r = y; generalize Zf 8 r = x
 rcases h2 with rfl | rfl <;> cases s <;> cases z <;> cases p <;> cases y <;> cases x <;> rfl
theorem vP (k v x : Nat) (hk : k < 8) (hv : v < 256) (hx : v &&& 2 ^ k = x) : x &&& 128 = cond (and (tOn k v) (Nat.beq k 7)) 128 0 ∧ Nat.beq x 0 = not (tOn k v) := by
 have h := Yb (n := 8) (m := 256) (p := fun k v => and (Nat.beq (Nat.land (Nat.land v (Nat.pow 2 k)) 128) (cond (and (tOn k v) (Nat.beq k 7)) 128 0)) (xor (Nat.beq (Nat.land v (Nat.pow 2 k)) 0) (tOn k v))) (by decide +kernel) k v hk hv
 rw [Bool.and_eq_true] at h
 rw [← hx]
 refine ⟨Nat.eq_of_beq_eq_true h.1, ?_⟩
 have h2 := h.2
 have e : Nat.land v (Nat.pow 2 k) = v &&& 2 ^ k := rfl
 rw [e] at h2
 revert h2
 cases Nat.beq (v &&& 2 ^ k) 0 <;> cases tOn k v <;> simp
theorem Zei (k v f b x g : Nat) (z : Nat) (hk : k < 8) (hv : v < 256) (hf : f < 256) (hb : b < 256) (hx : v &&& 2 ^ k = x) (hz : cond (Nat.beq x 0) 68 0 = z) (hg : Jj k v f b = g) :
  ((((x &&& 128) ||| z) ||| 16) ||| (f &&& 1)) ||| (b &&& 40) = g := by
 have ⟨h1, h2⟩ := vP k v x hk hv hx
 rw [h1, ← hz, h2, zO f hf, Vo b hb, ← hg]
 unfold Jj
 generalize tOn k v = on; generalize Nat.beq k 7 = s; generalize Zf 1 f = c; generalize Zf 32 b = y; generalize Zf 8 b = x
 cases on <;> cases s <;> cases c <;> cases y <;> cases x <;> rfl
theorem Zej (k v : Nat) (on : Bool) (m : Nat) (hk : k < 8) (hv : v < 256) (hm : 2 ^ k = m) : (v &&& (255 - m)) ||| cond on m 0 = KU k v on := by
 have h := Yb (n := 8) (m := 256) (p := fun k v => and (Nat.beq (Nat.lor (Nat.land v (Nat.sub 255 (Nat.pow 2 k))) (Nat.pow 2 k)) (KU k v true)) (Nat.beq (Nat.lor (Nat.land v (Nat.sub 255 (Nat.pow 2 k))) 0) (KU k v false))) (by decide +kernel) k v hk hv
 rw [Bool.and_eq_true] at h
 rw [← hm]
 cases on
 ·exact Nat.eq_of_beq_eq_true h.2
 ·exact Nat.eq_of_beq_eq_true h.1
theorem vQ (a : Nat) (h : a < 256) : a &&& (255 - 15) = a / 16 * 16 :=
 Nat.eq_of_beq_eq_true (Zu (show allB 256 (fun a => Nat.beq (Nat.land a (Nat.sub 255 15)) (Nat.mul (Nat.div a 16) 16)) = true by decide +kernel) a h)
theorem yb (a : Nat) (h : a < 256) : a &&& 15 = a % 16 :=
 Nat.eq_of_beq_eq_true (Zu (show allB 256 (fun a => Nat.beq (Nat.land a 15) (Nat.mod a 16)) = true by decide +kernel) a h)
theorem Jw (a b : Nat) (ha : a < 16) (hb : b < 16) : (a * 16) ||| b = a * 16 + b :=
 Nat.eq_of_beq_eq_true (Yb (n := 16) (m := 16) (p := fun a b => Nat.beq (Nat.lor (Nat.mul a 16) b) (Nat.add (Nat.mul a 16) b)) (by decide +kernel) a b ha hb)
def rYX (n : Nat) : Nat := Nat.add (cond (Zf 2 n) 32 0) (cond (Zf 8 n) 8 0)
def Zkl (a v : Nat) : Nat := Nat.mod (Nat.add a v) 256
def Wh (a v f : Nat) (p : Bool) : Nat := Zq (Zf 128 f) (Zf 64 f) (Zf 2 (Zkl a v)) false (Zf 8 (Zkl a v)) p false (Zf 1 f)
def rLess (m : Nat) (h : Bool) : Nat := cond h (Nat.mod (Nat.add m 255) 256) m
def rSeek (g n f : Nat) (p : Bool) : Nat := Zq (Zf 128 g) (Zf 64 g) (Zf 2 n) (Zf 16 g) (Zf 8 n) p true (Zf 1 f)
def rOn (g : Nat) (p : Bool) : Bool := and p (not (Zf 64 g))
def KK (a v f : Nat) (p : Bool) : Nat := rSeek (ZU a v 0) (rLess (ZY a v 0) (Zf 16 (ZU a v 0))) f p
def JM (a v : Nat) (p : Bool) : Bool := and p (not (Nat.beq a v))
def Ku (v m b : Nat) : Nat := Zq (nS b) (nZ b) (Zf 32 b) (Nat.ble 256 (Nat.add v m)) (Zf 8 b) (Jt (Nat.xor b (Nat.mod (Nat.add v m) 8))) (Zf 128 v) (Nat.ble 256 (Nat.add v m))
theorem Zgp (n : Nat) : rYX n < 256 := by unfold rYX; cases Zf 2 n <;> cases Zf 8 n <;> decide
theorem Zbr (a v : Nat) : Zkl a v < 256 := Nat.mod_lt _ (by omega)
theorem yc (a v f : Nat) (p : Bool) : Wh a v f p < 256 := Zm _ _ _ _ _ _ _ _
theorem Zek (g n f : Nat) (p : Bool) : rSeek g n f p < 256 := Zm _ _ _ _ _ _ _ _
theorem yd (v m b : Nat) : Ku v m b < 256 := Zm _ _ _ _ _ _ _ _
theorem ye (m : Nat) (h : Bool) (hm : m < 256) : rLess m h < 256 := by cases h; exact hm; exact Nat.mod_lt _ (by omega)
theorem Wi (s z y h x p n c : Bool) : Zf 128 (Zq s z y h x p n c) = s ∧ Zf 64 (Zq s z y h x p n c) = z ∧ Zf 16 (Zq s z y h x p n c) = h ∧ Zf 4 (Zq s z y h x p n c) = p ∧ Zf 2 (Zq s z y h x p n c) = n ∧ Zf 1 (Zq s z y h x p n c) = c := by
 revert s z y h x p n c; decide +kernel
theorem Zel (s z y h x p n c : Bool) : Zq s z y h x p n c &&& 64 = cond z 64 0 ∧ Zq s z y h x p n c &&& 4 = cond p 4 0 ∧ Zq s z y h x p n c &&& 16 = cond h 16 0 ∧ Zq s z y h x p n c &&& 1 = cond c 1 0 ∧ Zq s z y h x p n c &&& 2 = cond n 2 0 ∧ Zq s z y h x p n c &&& 18 = (cond h 16 0) + (cond n 2 0) ∧ Zq s z y h x p n c &&& 193 = cond s 128 0 + (cond z 64 0 + cond c 1 0) ∧ Zq s z y h x p n c &&& 68 = cond z 64 0 + cond p 4 0 := by
 revert s z y h x p n c; decide +kernel
theorem and_1 (f : Nat) (h : f < 256) : f &&& 1 = cond (Zf 1 f) 1 0 := Nat.eq_of_beq_eq_true (Zu (show allB 256 (fun f => Nat.beq (Nat.land f 1) (cond (Zf 1 f) 1 0)) = true by decide +kernel) f h)
theorem Zg9 (f : Nat) (h : f < 256) : f &&& 193 = cond (Zf 128 f) 128 0 + (cond (Zf 64 f) 64 0 + cond (Zf 1 f) 1 0) := Nat.eq_of_beq_eq_true (Zu (show allB 256 (fun f => Nat.beq (Nat.land f 193) (Nat.add (cond (Zf 128 f) 128 0) (Nat.add (cond (Zf 64 f) 64 0) (cond (Zf 1 f) 1 0)))) = true by decide +kernel) f h)
theorem Zha (f : Nat) (h : f < 256) : f &&& 128 = cond (Zf 128 f) 128 0 := Nat.eq_of_beq_eq_true (Zu (show allB 256 (fun f => Nat.beq (Nat.land f 128) (cond (Zf 128 f) 128 0)) = true by decide +kernel) f h)
theorem and_8 (f : Nat) (h : f < 256) : f &&& 8 = cond (Zf 8 f) 8 0 := Nat.eq_of_beq_eq_true (Zu (show allB 256 (fun f => Nat.beq (Nat.land f 8) (cond (Zf 8 f) 8 0)) = true by decide +kernel) f h)
theorem and_2 (f : Nat) (h : f < 256) : f &&& 2 = cond (Zf 2 f) 2 0 := Nat.eq_of_beq_eq_true (Zu (show allB 256 (fun f => Nat.beq (Nat.land f 2) (cond (Zf 2 f) 2 0)) = true by decide +kernel) f h)
theorem Zem (n : Nat) (h : n < 256) : ((n &&& 2) * 16) ||| (n &&& 8) = rYX n := by
 rw [and_2 n h, and_8 n h]; unfold rYX
 cases Zf 2 n <;> cases Zf 8 n <;> rfl
theorem Zhb (f n : Nat) (p : Bool) (hf : f < 256) : ((f &&& 193) ||| cond p 4 0) ||| rYX n = Zq (Zf 128 f) (Zf 64 f) (Zf 2 n) false (Zf 8 n) p false (Zf 1 f) := by
 rw [Zg9 f hf]; unfold rYX
 cases Zf 128 f <;> cases Zf 64 f <;> cases Zf 1 f <;> cases Zf 2 n <;> cases Zf 8 n <;> cases p <;> rfl
theorem Zhc (f : Nat) (h : f < 256) : f &&& 210 = cond (Zf 128 f) 128 0 + (cond (Zf 64 f) 64 0 + (cond (Zf 16 f) 16 0 + cond (Zf 2 f) 2 0)) := Nat.eq_of_beq_eq_true (Zu (show allB 256 (fun f => Nat.beq (Nat.land f 210) (Nat.add (cond (Zf 128 f) 128 0) (Nat.add (cond (Zf 64 f) 64 0) (Nat.add (cond (Zf 16 f) 16 0) (cond (Zf 2 f) 2 0))))) = true by decide +kernel) f h)
theorem Zhd (g n f : Nat) (p : Bool) (hg : g < 256) (hf : f < 256) (hN : Zf 2 g = true) : (((g &&& 210) ||| (f &&& 1)) ||| cond p 4 0) ||| rYX n = rSeek g n f p := by
 rw [Zhc g hg, and_1 f hf, hN]; unfold rYX rSeek
 cases Zf 128 g <;> cases Zf 64 g <;> cases Zf 16 g <;> cases Zf 1 f <;> cases Zf 2 n <;> cases Zf 8 n <;> cases p <;> rfl
theorem Zhe (g : Nat) (hg : g < 256) : ((g &&& 210) &&& 16) / 16 = cond (Zf 16 g) 1 0 := Nat.eq_of_beq_eq_true (Zu (show allB 256 (fun f => Nat.beq (Nat.div (Nat.land (Nat.land f 210) 16) 16) (cond (Zf 16 f) 1 0)) = true by decide +kernel) g hg)
theorem on_is (g n f : Nat) (p : Bool) : ((rSeek g n f p &&& 68 : Nat) : Int) = 4 ↔ rOn g p = true := by
 rw [show rSeek g n f p &&& 68 = _ from (Zel _ _ _ _ _ _ _ _).2.2.2.2.2.2.2]
 unfold rOn
 cases Zf 64 g <;> cases p <;> decide
theorem Zhf (v m b : Nat) (hv : v < 256) (k e : Bool) (hk : Nat.ble 256 (Nat.add v m) = k) (he : Jt (Nat.xor b (Nat.mod (Nat.add v m) 8)) = e) : (((nShape b ||| ((v &&& 128) / 64)) ||| cond k 17 0) ||| cond e 4 0) = Ku v m b := by
 rw [Zha v hv]; unfold Ku nShape
 rw [hk, he]
 cases Zf 128 v <;> cases nS b <;> cases nZ b <;> cases Zf 32 b <;> cases Zf 8 b <;> cases k <;> cases e <;> rfl
theorem sub_n (a v c : Nat) : Zf 2 (ZU a v c) = true := (Wi _ _ _ _ _ _ _ _).2.2.2.2.1
theorem sub_z (a v : Nat) (ha : a < 256) (hv : v < 256) : Zf 64 (ZU a v 0) = Nat.beq a v := by
 rw [show Zf 64 (ZU a v 0) = nZ (ZY a v 0) from (Wi _ _ _ _ _ _ _ _).2.1]
 unfold nZ
 rw [Bool.eq_iff_iff, Nat.beq_eq, Nat.beq_eq]
 show (a + 512 - (v + 0)) % 256 = 0 ↔ _
 omega
theorem Zkm (a v : Nat) (p : Bool) (ha : a < 256) (hv : v < 256) : rOn (ZU a v 0) p = JM a v p := by unfold rOn JM; rw [sub_z a v ha hv]
theorem Wj (a v f : Nat) (p : Bool) : KK a v f p < 256 := Zek _ _ _ _
theorem Zhg (m : Nat) (h : Bool) (hm : m < 256) : ((m : Int) - ((cond h 1 0 : Nat) : Int)) % 256 = ((rLess m h : Nat) : Int) := by
 cases h
 ·show ((m : Int) - 0) % 256 = (m : Int); omega
 ·show ((m : Int) - 1) % 256 = (((m + 255) % 256 : Nat) : Int); omega
def askBit : Nat → Nat
 | 0 => 64
 | 1 => 1
 | 2 => 4
 | _ => 128
def ZH (f k : Nat) : Bool := Zf (askBit (k / 2)) f == Nat.beq (k % 2) 1
end Go.Proofs.YtgdeeiimkhjfiaaGreatDoor
