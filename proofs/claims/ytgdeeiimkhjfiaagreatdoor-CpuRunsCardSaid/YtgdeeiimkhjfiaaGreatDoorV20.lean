import Derived.Test.YtgdeeiimkhjfiaaGreatDoorV19
set_option maxRecDepth 100000
set_option maxHeartbeats 6400000
namespace Go.Proofs.YtgdeeiimkhjfiaaGreatDoor
open Go.RowKit
section
variable {W0 w : World} {x b tq n c : Nat} {s : Cs} {ix : Bool} {pg : Int} {l : Zj}
theorem ZcR (r : Rg) (hb : r.a < 256) (w : World) : CB 43 #[r.v, .string ⟨#[65]⟩] w (.int .i64 (r.a : Int)) := by
 have hb1 : (r.a : Int) < 256 := by omega
 exact k8
theorem ZgC (r : Rg) (hb : r.f < 256) (w : World) : CB 43 #[r.v, .string ⟨#[70]⟩] w (.int .i64 (r.f : Int)) := by
 have hb1 : (r.f : Int) < 256 := by omega
 exact k8
theorem ZcS (r : Rg) (hb : r.b < 256) (w : World) : CB 43 #[r.v, .string ⟨#[66]⟩] w (.int .i64 (r.b : Int)) := by
 have hb1 : (r.b : Int) < 256 := by omega
 exact k8
theorem ZcT (r : Rg) (hb : r.c < 256) (w : World) : CB 43 #[r.v, .string ⟨#[67]⟩] w (.int .i64 (r.c : Int)) := by
 have hb1 : (r.c : Int) < 256 := by omega
 exact k8
theorem ZcU (r : Rg) (hb : r.d < 256) (w : World) : CB 43 #[r.v, .string ⟨#[68]⟩] w (.int .i64 (r.d : Int)) := by
 have hb1 : (r.d : Int) < 256 := by omega
 exact k8
theorem ZcV (r : Rg) (hb : r.e < 256) (w : World) : CB 43 #[r.v, .string ⟨#[69]⟩] w (.int .i64 (r.e : Int)) := by
 have hb1 : (r.e : Int) < 256 := by omega
 exact k8
theorem ZcW (r : Rg) (hb : r.h < 256) (w : World) : CB 43 #[r.v, .string ⟨#[72]⟩] w (.int .i64 (r.h : Int)) := by
 have hb1 : (r.h : Int) < 256 := by omega
 exact k8
theorem ZcX (r : Rg) (hb : r.l < 256) (w : World) : CB 43 #[r.v, .string ⟨#[76]⟩] w (.int .i64 (r.l : Int)) := by
 have hb1 : (r.l : Int) < 256 := by omega
 exact k8
theorem Zh7 (r : Rg) (hb : r.ix < 65536) (w : World) : CB 43 #[r.v, .string ⟨#[73, 88]⟩] w (.int .i64 (r.ix : Int)) := by
 have hb1 : (r.ix : Int) < 65536 := by omega
 exact k8
theorem Zh8 (r : Rg) (hb : r.iy < 65536) (w : World) : CB 43 #[r.v, .string ⟨#[73, 89]⟩] w (.int .i64 (r.iy : Int)) := by
 have hb1 : (r.iy : Int) < 65536 := by omega
 exact k8
theorem ZcY (r : Rg) (hb : r.sp < 65536) (w : World) : CB 43 #[r.v, .string ⟨#[83, 80]⟩] w (.int .i64 (r.sp : Int)) := by
 have hb1 : (r.sp : Int) < 65536 := by omega
 exact k8
theorem Ze0 (r : Rg) (hb : r.ix < 65536) (w : World) : CB 43 #[r.v, .string ⟨#[73, 88, 72]⟩] w (.int .i64 ((r.ix / 256 : Nat) : Int)) := by
 have hb1 : (r.ix : Int) < 65536 := by omega
 have HM := Zb (Own.start w)
 go_enter Tryz.func43, Tryz.ntmps43
 go_wp2_with (first | (refine a0 ?_; clear HM; intro w' g' HM) | refine a13 ?_)
 go_ret
 exact ⟨congrArg (fun z : Int => (Ending.returned (.int .i64 z) : Ending)) (show (r.ix : Int) / 256 = ((r.ix / 256 : Nat) : Int) by omega), Own.fin HM⟩
theorem Ze1 (r : Rg) (hb : r.ix < 65536) (w : World) : CB 43 #[r.v, .string ⟨#[73, 88, 76]⟩] w (.int .i64 ((r.ix % 256 : Nat) : Int)) := by
 have hb1 : (r.ix : Int) < 65536 := by omega
 have HM := Zb (Own.start w)
 go_enter Tryz.func43, Tryz.ntmps43
 go_wp2_with (first | (refine a0 ?_; clear HM; intro w' g' HM) | refine a13 ?_)
 go_ret
 exact ⟨congrArg (fun z : Int => (Ending.returned (.int .i64 z) : Ending)) (show (r.ix : Int) % 256 = ((r.ix % 256 : Nat) : Int) by omega), Own.fin HM⟩
theorem Ze2 (r : Rg) (hb : r.iy < 65536) (w : World) : CB 43 #[r.v, .string ⟨#[73, 89, 72]⟩] w (.int .i64 ((r.iy / 256 : Nat) : Int)) := by
 have hb1 : (r.iy : Int) < 65536 := by omega
 have HM := Zb (Own.start w)
 go_enter Tryz.func43, Tryz.ntmps43
 go_wp2_with (first | (refine a0 ?_; clear HM; intro w' g' HM) | refine a13 ?_)
 go_ret
 exact ⟨congrArg (fun z : Int => (Ending.returned (.int .i64 z) : Ending)) (show (r.iy : Int) / 256 = ((r.iy / 256 : Nat) : Int) by omega), Own.fin HM⟩
theorem Ze3 (r : Rg) (hb : r.iy < 65536) (w : World) : CB 43 #[r.v, .string ⟨#[73, 89, 76]⟩] w (.int .i64 ((r.iy % 256 : Nat) : Int)) := by
 have hb1 : (r.iy : Int) < 65536 := by omega
 have HM := Zb (Own.start w)
 go_enter Tryz.func43, Tryz.ntmps43
 go_wp2_with (first | (refine a0 ?_; clear HM; intro w' g' HM) | refine a13 ?_)
 go_ret
 exact ⟨congrArg (fun z : Int => (Ending.returned (.int .i64 z) : Ending)) (show (r.iy : Int) % 256 = ((r.iy % 256 : Nat) : Int) by omega), Own.fin HM⟩
theorem ZcZ (r : Rg) (v : Nat) (hv : v < 256) (w : World) : CB 99 #[r.v, .string ⟨#[65]⟩, .int .i64 (v : Int)] w (({ r with a := v } : Rg).v) := by
 have hv1 : (v : Int) % 256 = (v : Int) := by omega
 have hv2 : (v : Int) < 256 := by omega
 clear hv
 have HM := Zb (Own.start w)
 go_enter Tryz.func99, Tryz.ntmps99
 go_wp2_with (first | (refine b0 ?_; clear HM; intro w' g' HM) | refine a6 ?_ | (refine b1 ?_; clear HM; intro w' HM))
 refine bodyPost_ret (v := .agg (r.cells.set 0 (.int .u8 (v : Int))).toArray) (Zi HM Tryz.results99 _ rfl (by first | exact .z | exact .s .z) aggR) rfl ⟨rfl, Own.fin HM⟩
theorem ZgD (r : Rg) (v : Nat) (hv : v < 256) (w : World) : CB 99 #[r.v, .string ⟨#[70]⟩, .int .i64 (v : Int)] w (({ r with f := v } : Rg).v) := by
 have hv1 : (v : Int) % 256 = (v : Int) := by omega
 have hv2 : (v : Int) < 256 := by omega
 clear hv
 have HM := Zb (Own.start w)
 go_enter Tryz.func99, Tryz.ntmps99
 go_wp2_with (first | (refine b0 ?_; clear HM; intro w' g' HM) | refine a6 ?_ | (refine b1 ?_; clear HM; intro w' HM))
 refine bodyPost_ret (v := .agg (r.cells.set 1 (.int .u8 (v : Int))).toArray) (Zi HM Tryz.results99 _ rfl (by first | exact .z | exact .s .z) aggR) rfl ⟨rfl, Own.fin HM⟩
theorem Zc0 (r : Rg) (v : Nat) (hv : v < 256) (w : World) : CB 99 #[r.v, .string ⟨#[66]⟩, .int .i64 (v : Int)] w (({ r with b := v } : Rg).v) := by
 have hv1 : (v : Int) % 256 = (v : Int) := by omega
 have hv2 : (v : Int) < 256 := by omega
 clear hv
 have HM := Zb (Own.start w)
 go_enter Tryz.func99, Tryz.ntmps99
 go_wp2_with (first | (refine b0 ?_; clear HM; intro w' g' HM) | refine a6 ?_ | (refine b1 ?_; clear HM; intro w' HM))
 refine bodyPost_ret (v := .agg (r.cells.set 2 (.int .u8 (v : Int))).toArray) (Zi HM Tryz.results99 _ rfl (by first | exact .z | exact .s .z) aggR) rfl ⟨rfl, Own.fin HM⟩
theorem Zc1 (r : Rg) (v : Nat) (hv : v < 256) (w : World) : CB 99 #[r.v, .string ⟨#[67]⟩, .int .i64 (v : Int)] w (({ r with c := v } : Rg).v) := by
 have hv1 : (v : Int) % 256 = (v : Int) := by omega
 have hv2 : (v : Int) < 256 := by omega
 clear hv
 have HM := Zb (Own.start w)
 go_enter Tryz.func99, Tryz.ntmps99
 go_wp2_with (first | (refine b0 ?_; clear HM; intro w' g' HM) | refine a6 ?_ | (refine b1 ?_; clear HM; intro w' HM))
 refine bodyPost_ret (v := .agg (r.cells.set 3 (.int .u8 (v : Int))).toArray) (Zi HM Tryz.results99 _ rfl (by first | exact .z | exact .s .z) aggR) rfl ⟨rfl, Own.fin HM⟩
theorem Zc2 (r : Rg) (v : Nat) (hv : v < 256) (w : World) : CB 99 #[r.v, .string ⟨#[68]⟩, .int .i64 (v : Int)] w (({ r with d := v } : Rg).v) := by
 have hv1 : (v : Int) % 256 = (v : Int) := by omega
 have hv2 : (v : Int) < 256 := by omega
 clear hv
 have HM := Zb (Own.start w)
 go_enter Tryz.func99, Tryz.ntmps99
 go_wp2_with (first | (refine b0 ?_; clear HM; intro w' g' HM) | refine a6 ?_ | (refine b1 ?_; clear HM; intro w' HM))
 refine bodyPost_ret (v := .agg (r.cells.set 4 (.int .u8 (v : Int))).toArray) (Zi HM Tryz.results99 _ rfl (by first | exact .z | exact .s .z) aggR) rfl ⟨rfl, Own.fin HM⟩
theorem Zc3 (r : Rg) (v : Nat) (hv : v < 256) (w : World) : CB 99 #[r.v, .string ⟨#[69]⟩, .int .i64 (v : Int)] w (({ r with e := v } : Rg).v) := by
 have hv1 : (v : Int) % 256 = (v : Int) := by omega
 have hv2 : (v : Int) < 256 := by omega
 clear hv
 have HM := Zb (Own.start w)
 go_enter Tryz.func99, Tryz.ntmps99
 go_wp2_with (first | (refine b0 ?_; clear HM; intro w' g' HM) | refine a6 ?_ | (refine b1 ?_; clear HM; intro w' HM))
 refine bodyPost_ret (v := .agg (r.cells.set 5 (.int .u8 (v : Int))).toArray) (Zi HM Tryz.results99 _ rfl (by first | exact .z | exact .s .z) aggR) rfl ⟨rfl, Own.fin HM⟩
theorem Zc4 (r : Rg) (v : Nat) (hv : v < 256) (w : World) : CB 99 #[r.v, .string ⟨#[72]⟩, .int .i64 (v : Int)] w (({ r with h := v } : Rg).v) := by
 have hv1 : (v : Int) % 256 = (v : Int) := by omega
 have hv2 : (v : Int) < 256 := by omega
 clear hv
 have HM := Zb (Own.start w)
 go_enter Tryz.func99, Tryz.ntmps99
 go_wp2_with (first | (refine b0 ?_; clear HM; intro w' g' HM) | refine a6 ?_ | (refine b1 ?_; clear HM; intro w' HM))
 refine bodyPost_ret (v := .agg (r.cells.set 6 (.int .u8 (v : Int))).toArray) (Zi HM Tryz.results99 _ rfl (by first | exact .z | exact .s .z) aggR) rfl ⟨rfl, Own.fin HM⟩
theorem Zc5 (r : Rg) (v : Nat) (hv : v < 256) (w : World) : CB 99 #[r.v, .string ⟨#[76]⟩, .int .i64 (v : Int)] w (({ r with l := v } : Rg).v) := by
 have hv1 : (v : Int) % 256 = (v : Int) := by omega
 have hv2 : (v : Int) < 256 := by omega
 clear hv
 have HM := Zb (Own.start w)
 go_enter Tryz.func99, Tryz.ntmps99
 go_wp2_with (first | (refine b0 ?_; clear HM; intro w' g' HM) | refine a6 ?_ | (refine b1 ?_; clear HM; intro w' HM))
 refine bodyPost_ret (v := .agg (r.cells.set 7 (.int .u8 (v : Int))).toArray) (Zi HM Tryz.results99 _ rfl (by first | exact .z | exact .s .z) aggR) rfl ⟨rfl, Own.fin HM⟩
theorem Zh9 (r : Rg) (v : Nat) (hv : v < 65536) (w : World) : CB 99 #[r.v, .string ⟨#[73, 88]⟩, .int .i64 (v : Int)] w (({ r with ix := v } : Rg).v) := by
 have hv1 : (v : Int) % 65536 = (v : Int) := by omega
 have hv2 : (v : Int) < 65536 := by omega
 clear hv
 have HM := Zb (Own.start w)
 go_enter Tryz.func99, Tryz.ntmps99
 go_wp2_with (first | (refine b0 ?_; clear HM; intro w' g' HM) | refine a6 ?_ | (refine b1 ?_; clear HM; intro w' HM))
 refine bodyPost_ret (v := .agg (r.cells.set 16 (.int .u16 (v : Int))).toArray) (Zi HM Tryz.results99 _ rfl (by first | exact .z | exact .s .z) aggR) rfl ⟨rfl, Own.fin HM⟩
theorem Zia (r : Rg) (v : Nat) (hv : v < 65536) (w : World) : CB 99 #[r.v, .string ⟨#[73, 89]⟩, .int .i64 (v : Int)] w (({ r with iy := v } : Rg).v) := by
 have hv1 : (v : Int) % 65536 = (v : Int) := by omega
 have hv2 : (v : Int) < 65536 := by omega
 clear hv
 have HM := Zb (Own.start w)
 go_enter Tryz.func99, Tryz.ntmps99
 go_wp2_with (first | (refine b0 ?_; clear HM; intro w' g' HM) | refine a6 ?_ | (refine b1 ?_; clear HM; intro w' HM))
 refine bodyPost_ret (v := .agg (r.cells.set 17 (.int .u16 (v : Int))).toArray) (Zi HM Tryz.results99 _ rfl (by first | exact .z | exact .s .z) aggR) rfl ⟨rfl, Own.fin HM⟩
theorem Zc6 (r : Rg) (v : Nat) (hv : v < 65536) (w : World) : CB 99 #[r.v, .string ⟨#[83, 80]⟩, .int .i64 (v : Int)] w (({ r with sp := v } : Rg).v) := by
 have hv1 : (v : Int) % 65536 = (v : Int) := by omega
 have hv2 : (v : Int) < 65536 := by omega
 clear hv
 have HM := Zb (Own.start w)
 go_enter Tryz.func99, Tryz.ntmps99
 go_wp2_with (first | (refine b0 ?_; clear HM; intro w' g' HM) | refine a6 ?_ | (refine b1 ?_; clear HM; intro w' HM))
 refine bodyPost_ret (v := .agg (r.cells.set 18 (.int .u16 (v : Int))).toArray) (Zi HM Tryz.results99 _ rfl (by first | exact .z | exact .s .z) aggR) rfl ⟨rfl, Own.fin HM⟩
theorem k34 {P : Prop} (h : P := by
 clear hJ hv hb
 have HM := Zb (Own.start w)
 go_enter Tryz.func99, Tryz.ntmps99
 go_wp2_with (first | (refine b0 ?_; clear HM; intro w' g' HM) | refine b12 ?_ | (refine b1 ?_; clear HM; intro w' HM))
 refine bodyPost_ret (v := .agg (r.cells.set 16 (.int .u16 (J : Int))).toArray) (Zi HM Tryz.results99 _ rfl (by first | exact .z | exact .s .z) aggR) rfl ⟨rfl, Own.fin HM⟩) : P := h
theorem Ze4 (r : Rg) (hb : r.ix < 65536) (v : Nat) (hv : v < 256) (w : World) : CB 99 #[r.v, .string ⟨#[73, 88, 72]⟩, .int .i64 (v : Int)] w (({ r with ix := v * 256 + r.ix % 256 } : Rg).v) := by
 have hb1 : (r.ix : Int) < 65536 := by omega
 have hv1 : (v : Int) % 256 = (v : Int) := by omega
 have hv2 : (v : Int) < 256 := by omega
 obtain ⟨J, hJ⟩ : ∃ J, J = v * 256 + r.ix % 256 := ⟨_, rfl⟩
 rw [← hJ]
 have J1 : (J : Int) < 65536 := by omega
 have e1 : (v : Int) * 256 + (r.ix : Int) % 256 = (J : Int) := by omega
 exact k34
theorem Ze5 (r : Rg) (hb : r.ix < 65536) (v : Nat) (hv : v < 256) (w : World) : CB 99 #[r.v, .string ⟨#[73, 88, 76]⟩, .int .i64 (v : Int)] w (({ r with ix := r.ix / 256 * 256 + v } : Rg).v) := by
 have hb1 : (r.ix : Int) < 65536 := by omega
 have hv1 : (v : Int) % 256 = (v : Int) := by omega
 have hv2 : (v : Int) < 256 := by omega
 obtain ⟨J, hJ⟩ : ∃ J, J = r.ix / 256 * 256 + v := ⟨_, rfl⟩
 rw [← hJ]
 have J1 : (J : Int) < 65536 := by omega
 have e1 : (r.ix : Int) / 256 * 256 + (v : Int) = (J : Int) := by omega
 exact k34
theorem k35 {P : Prop} (h : P := by
 clear hJ hv hb
 have HM := Zb (Own.start w)
 go_enter Tryz.func99, Tryz.ntmps99
 go_wp2_with (first | (refine b0 ?_; clear HM; intro w' g' HM) | refine b12 ?_ | (refine b1 ?_; clear HM; intro w' HM))
 refine bodyPost_ret (v := .agg (r.cells.set 17 (.int .u16 (J : Int))).toArray) (Zi HM Tryz.results99 _ rfl (by first | exact .z | exact .s .z) aggR) rfl ⟨rfl, Own.fin HM⟩) : P := h
theorem Ze6 (r : Rg) (hb : r.iy < 65536) (v : Nat) (hv : v < 256) (w : World) : CB 99 #[r.v, .string ⟨#[73, 89, 72]⟩, .int .i64 (v : Int)] w (({ r with iy := v * 256 + r.iy % 256 } : Rg).v) := by
 have hb1 : (r.iy : Int) < 65536 := by omega
 have hv1 : (v : Int) % 256 = (v : Int) := by omega
 have hv2 : (v : Int) < 256 := by omega
 obtain ⟨J, hJ⟩ : ∃ J, J = v * 256 + r.iy % 256 := ⟨_, rfl⟩
 rw [← hJ]
 have J1 : (J : Int) < 65536 := by omega
 have e1 : (v : Int) * 256 + (r.iy : Int) % 256 = (J : Int) := by omega
 exact k35
theorem Ze7 (r : Rg) (hb : r.iy < 65536) (v : Nat) (hv : v < 256) (w : World) : CB 99 #[r.v, .string ⟨#[73, 89, 76]⟩, .int .i64 (v : Int)] w (({ r with iy := r.iy / 256 * 256 + v } : Rg).v) := by
 have hb1 : (r.iy : Int) < 65536 := by omega
 have hv1 : (v : Int) % 256 = (v : Int) := by omega
 have hv2 : (v : Int) < 256 := by omega
 obtain ⟨J, hJ⟩ : ∃ J, J = r.iy / 256 * 256 + v := ⟨_, rfl⟩
 rw [← hJ]
 have J1 : (J : Int) < 65536 := by omega
 have e1 : (r.iy : Int) / 256 * 256 + (v : Int) = (J : Int) := by omega
 exact k35
theorem oneWp : One Tryz.prog 31 := ⟨⟨_, Tryz.underlying31, rfl⟩, by kernel_rfl⟩
def xc (s : Cs) (b tq : Nat) (ix : Bool) (pg : Int) : List Value := s.r.cells ++ [.pointer (some ⟨b, 0, none⟩), .int .u16 (tq : Int), .bool ix, .int .i64 pg]
theorem Xs.drop0 (s : Cs) (x : Nat × Nat × Bool × Int) : Drop (xc s x.1 x.2.1 x.2.2.1 x.2.2.2) 0 (xc s x.1 x.2.1 x.2.2.1 x.2.2.2) := .z
section
variable {s : Cs} {b tq : Nat} {ix : Bool} {pg : Int}
theorem xc_take29 : Take (xc s b tq ix pg) 29 s.r.cells := by unfold xc Rg.cells; repeat' first | exact .z | apply Take.s
theorem W5 (r : Rg) : Over (xc s b tq ix pg) 0 r.cells (xc (s.setR r) b tq ix pg) := by unfold xc Rg.cells Cs.setR; repeat' first | exact .z | apply Over.p
theorem W6 {v : Nat} : (xc s b tq ix pg).set 19 (.int .u16 (v : Int)) = xc (s.setPC v) b tq ix pg := rfl
theorem W7 {v : Nat} : (xc s b tq ix pg).set 20 (.int .u16 (v : Int)) = xc (s.setWZ v) b tq ix pg := rfl
theorem W8 {v : Bool} : (xc s b tq ix pg).set 27 (.bool v) = xc (s.setHT v) b tq ix pg := rfl
theorem W9 {v : Bool} : (xc s b tq ix pg).set 25 (.bool v) = xc (s.setQ1 v) b tq ix pg := rfl
theorem za {v : Bool} : (xc s b tq ix pg).set 26 (.bool v) = xc (s.setQ2 v) b tq ix pg := rfl
theorem xc_length : (xc s b tq ix pg).length = 33 := rfl
end
structure Ex (W0 w : World) (x b : Nat) (s : Cs) (tq : Nat) (ix : Bool) (pg : Int) (l : Zj) (n : Nat) : Prop where
 fits : s.r.Fits
 fx : Fx W0 w b s.u ((x, 58, xc s b tq ix pg) :: l) n
section
variable {W0 w : World} {x b tq n : Nat} {s : Cs} {ix : Bool} {pg : Int} {l X : Zj}
theorem Ex.hid (h : Ex W0 w x b s tq ix pg l n) : ∃ _ : Hid s.r.Fits, ∃ _ : Hid (s.u.Good n), ∃ X, ∃ _ : Hid (yJ X b s.u), Hid (Own W0 w ((x, 58, xc s b tq ix pg) :: (l ++ X))) := by
 obtain ⟨hf, hg, X, hX, hO⟩ := h
 exact ⟨hf, hg, X, hX, hO⟩
theorem Ex.made (h : Own W0 w ((x, 58, xc s b tq ix pg) :: (l ++ X))) (hg : s.u.Good n) (hX : yJ X b s.u) (hf : s.r.Fits) : Ex W0 w x b s tq ix pg l n := ⟨hf, hg, X, hX, h⟩
end
theorem Zib (h : Hid (Ex W0 w x b (s) tq ix pg l n)) :
  CX 22 #[.pointer (some ⟨x, 0, none⟩), .string ⟨#[83, 80]⟩] w (.int .i64 (s.r.sp : Int)) fun w' => Hid (Ex W0 w' x b (s) tq ix pg l n) := by
 obtain ⟨HF, HG, X, HX, HM⟩ := h.out.hid
 clear h
 have hsp := HF.out.sp
 go_enter Tryz.func22, Tryz.ntmps22
 go_wp2_with (first | refine a23 ?_ | (go_at_call 43; (with_reducible refine (ZcY s.r hsp _).mono ?_); rintro e w' ⟨rfl, hb⟩; replace HM := Zb (HM.out.call hb); clear hb))
 go_ret
 exact ⟨rfl, Zb (Ex.made HM.out HG.out HX.out HF.out)⟩
theorem yL (z : Nat) (hz : Hid (s.r.sp = z)) (h : Hid (Ex W0 w x b (s) tq ix pg l n)) :
  CX 22 #[.pointer (some ⟨x, 0, none⟩), .string ⟨#[83, 80]⟩] w (.int .i64 (z : Int)) fun w' => Hid (Ex W0 w' x b (s) tq ix pg l n) := by
 rw [← hz.out]; exact Zib h
theorem Zc7 (z t : Int) (v : Nat) (hv : v < 65536) (h1 : z.tmod 65536 = t) (h2 : (t + 65536).tmod 65536 = (v : Int)) (ht : -65536 < t ∧ t < 65536) (h : Hid (Ex W0 w x b (s) tq ix pg l n)) :
  CX 49 #[.pointer (some ⟨x, 0, none⟩), .string ⟨#[83, 80]⟩, .int .i64 z] w (.tuple #[]) fun w' => Hid (Ex W0 w' x b (s.setSP v) tq ix pg l n) := by
 obtain ⟨HF, HG, X, HX, HM⟩ := h.out.hid
 clear h
 have t1 := ht.1
 have t2 := ht.2
 clear ht
 go_enter Tryz.func49, Tryz.ntmps49
 go_wp2_with (first | refine a23 ?_ | (go_at_call 99; (with_reducible refine (Zc6 s.r v hv _).mono ?_); rintro e w' ⟨rfl, hb⟩; replace HM := Zb (HM.out.call hb); clear hb) | ((with_reducible apply Z8 HM); exact rfl; exact rfl; (conv => lhs; whnf); exact rfl; exact .z; exact W5 _; exact .z; exact aggR.size; exact Rg.cells_length _; exact Rg.one1 _; exact rfl; exact rfl; clear HM; intro w' HM))
 (first | go_end0 | ((try simp only [Exit.inBlock, Exit.then]); refine bodyPost_ret (results_none rfl _ _ _) rfl ?_))
 have hf : (s.setSP v).r.Fits := { HF.out with sp := hv }
 exact ⟨rfl, Zb (Ex.made HM.out HG.out HX.out hf)⟩
theorem zb (h : Hid (Ex W0 w x b (s) tq ix pg l n)) :
  CX 26 #[.pointer (some ⟨x, 0, none⟩)] w (.int .i64 (s.r.pc : Int)) fun w' => Hid (Ex W0 w' x b (s) tq ix pg l n) := by
 obtain ⟨HF, HG, X, HX, HM⟩ := h.out.hid
 clear h
 have hpc := HF.out.pc
 go_enter Tryz.func26, Tryz.ntmps26
 go_wp2_with (first | ((with_reducible apply Yr HM); exact rfl; exact rfl; exact xS; exact .z; exact rfl; exact rfl))
 go_ret
 exact ⟨rfl, Zb (Ex.made HM.out HG.out HX.out HF.out)⟩
theorem yM (a : Nat) (ha : a < 65536) (h : Hid (Ex W0 w x b (s) tq ix pg l n)) :
  CX 27 #[.pointer (some ⟨x, 0, none⟩), .int .i64 (a : Int)] w (.tuple #[]) fun w' => Hid (Ex W0 w' x b (s.goTo a) tq ix pg l n) := by
 obtain ⟨HF, HG, X, HX, HM⟩ := h.out.hid
 clear h
 go_enter Tryz.func27, Tryz.ntmps27
 go_wp2_with (first | ((with_reducible apply Ye HM); exact rfl; exact rfl; exact rfl; exact .z; (first | exact W6 | exact W7 | exact W8 | exact W9 | exact za); exact .z; (first | (with_reducible exact oneU16.size) | (with_reducible exact oneBool.size)); exact rfl; exact rfl; (rw [xc_length]; decide); exact rfl; clear HM; intro w' HM))
 (first | go_end0 | ((try simp only [Exit.inBlock, Exit.then]); refine bodyPost_ret (results_none rfl _ _ _) rfl ?_))
 have hf : (s.goTo a).r.Fits := { HF.out with pc := ha, wz := ha }
 exact ⟨rfl, Zb (Ex.made HM.out HG.out HX.out hf)⟩
theorem Vw (a v : Nat) (ha : a < 65536) (hv : v < 256) (h : Hid (Ex W0 w x b (s) tq ix pg l (n + 1))) :
  CX 59 #[.pointer (some ⟨b, 0, none⟩), .int .u16 (a : Int), .int .u8 (v : Int)] w (.tuple #[]) fun w' => Hid (Ex W0 w' x b (s.wr a v) tq ix pg l n) :=
 (ZaD a v ha hv (Zb h.out.fx)).mono fun _ _ ⟨he, hf⟩ => ⟨he, Zb ⟨h.out.fits, hf.out⟩⟩
theorem Ze8 (a : Nat) (ha : a < 65536) (h : Hid (Ex W0 w x b (s) tq ix pg l (n + 1))) :
  CX 36 #[.pointer (some ⟨b, 0, none⟩), .int .u16 (a : Int)] w (.int .u8 (s.m a : Int)) fun w' => Hid (Ex W0 w' x b (s.rd a) tq ix pg l n) :=
 (ZcQ a ha (Zb h.out.fx)).mono fun _ _ ⟨he, hf⟩ => ⟨he, Zb ⟨h.out.fits, hf.out⟩⟩
theorem jy (a v : Nat) (ha : a < 65536) (hv : s.m a = v) (h : Hid (Ex W0 w x b (s) tq ix pg l (n + 1))) :
  CX 36 #[.pointer (some ⟨b, 0, none⟩), .int .u16 (a : Int)] w (.int .u8 (v : Int)) fun w' => Hid (Ex W0 w' x b (s.rd a) tq ix pg l n) := by
 subst hv; exact Ze8 a ha h
theorem Zic (p q : Nat) (hp : p < 65536) (hq : Hid (dn1 p = q)) : ∃ t : Int, ((p : Int) - 1).tmod 65536 = t ∧ (t + 65536).tmod 65536 = (q : Int) ∧ -65536 < t ∧ t < 65536 := by
 have e := hq.out
 unfold dn1 at e
 by_cases h0 : p = 0
 ·subst h0
  refine ⟨-1, rfl, ?_, by decide, by decide⟩
  rw [← e]; rfl
 ·refine ⟨(p : Int) - 1, ?_, ?_, by omega, by omega⟩
  ·rw [Int.tmod_eq_emod_of_nonneg (by omega)]; omega
  ·rw [Int.tmod_eq_emod_of_nonneg (by omega)]; omega
theorem Ze9 (h l v : Nat) (hh : h < 256) (hl : l < 256) (hv : h * 256 + l = v) (w : World) :
  CW 60 #[.int .u8 (h : Int), .int .u8 (l : Int)] w (.int .u16 (v : Int)) := by
 subst hv
 go_enter Tryz.func60, Tryz.ntmps60
 go_wp2
 go_ret
 refine ⟨?_, rfl⟩
 simp only [Int.natCast_add, Int.natCast_mul, Int.cast_ofNat_Int]
 rfl
theorem Vc (v : Nat) (hv : v < 65536) (h : Hid (Ex W0 w x b (s) tq ix pg l (n + 2))) :
  CX 25 #[.pointer (some ⟨x, 0, none⟩), .int .i64 (v : Int)] w (.tuple #[]) fun w' => Hid (Ex W0 w' x b (s.push v) tq ix pg l n) := by
 obtain ⟨HF, HG, X, HX, HM⟩ := h.out.hid
 obtain ⟨lo, hlo⟩ : ∃ x, Hid (v % 256 = x) := ⟨_, rfl⟩
 obtain ⟨hi, hhi⟩ : ∃ x, Hid (Zx v = x) := ⟨_, rfl⟩
 have h1 : lo < 256 := by rw [← hlo.out]; exact Nat.mod_lt _ (by decide)
 have h2 : hi < 256 := by rw [← hhi.out]; exact Yd v hv
 obtain ⟨z, hz⟩ : ∃ x, Hid (s.r.sp = x) := ⟨_, rfl⟩
 obtain ⟨p, hp⟩ : ∃ x, Hid (dn1 z = x) := ⟨_, rfl⟩
 obtain ⟨q, hq⟩ : ∃ x, Hid (dn1 p = x) := ⟨_, rfl⟩
 have z1 : z < 65536 := by rw [← hz.out]; exact HF.out.sp
 have p1 : p < 65536 := by rw [← hp.out]; exact ZP _
 have q1 : q < 65536 := by rw [← hq.out]; exact ZP _
 have E : s.push v = (((s.setSP p).wr p hi).setSP q).wr q lo := by unfold Cs.push; rw [hlo.out, hhi.out, hz.out, hp.out, hq.out]
 rw [E]
 obtain ⟨t, ht1, ht2, ht3⟩ := Zic z p z1 hp
 obtain ⟨y, hy1, hy2, hy3⟩ := Zic p q p1 hq
 have Ht1 := Zb ht1
 have Ht2 := Zb ht2
 have Ht3 := Zb ht3
 have Hy1 := Zb hy1
 have Hy2 := Zb hy2
 have Hy3 := Zb hy3
 clear ht1 ht2 ht3 hy1 hy2 hy3
 have w1 : Zx v = v / 256 := rfl
 have e1 : (v : Int) / 256 = (hi : Int) := by rw [← hhi.out, w1]; omega
 have e2 : (v : Int) % 256 = (lo : Int) := by rw [← hlo.out]; omega
 have e3 : (v : Int).tdiv 256 = (hi : Int) := by rw [Int.tdiv_eq_ediv_of_nonneg (by omega)]; exact e1
 have e4 : (v : Int).tmod 256 = (lo : Int) := by rw [Int.tmod_eq_emod_of_nonneg (by omega)]; exact e2
 clear w1
 clear E h
 go_enter Tryz.func25, Tryz.ntmps25
 go_upto_region 1 with (first | (go_at_call 22; have hco := Zb (Ex.made HM.out HG.out HX.out HF.out); (with_reducible refine (yL z hz hco).mono ?_); clear hco; rintro e w' ⟨rfl, hc⟩; clear HM HF HG HX; obtain ⟨HF, HG, X, HX, HM⟩ := hc.out.hid; clear hc) | (go_at_call 49; have hco := Zb (Ex.made HM.out HG.out HX.out HF.out); (with_reducible refine (Zc7 _ t p p1 Ht1.out Ht2.out Ht3.out hco).mono ?_); clear hco; rintro e w' ⟨rfl, hc⟩; clear HM HF HG HX; obtain ⟨HF, HG, X, HX, HM⟩ := hc.out.hid; clear hc))
 (refine Zk 12 HM (by kernel_rfl) (by kernel_rfl) (by kernel_rfl) ?_; simp only [List.take_succ_cons, List.take_zero, List.drop_succ_cons, List.drop_zero]; (try simp only [Act.put, Ze, Zc, Zd]); repeat ((fail_if_success (with_reducible refine wpQuiet_nil ?_)); first | go_big_quiet_skip | (go_big_quiet_want; first | (refine a17 ?_; go_big_quiet_op; go_big_quiet_on) | (refine a18 ?_; go_big_quiet_op; go_big_quiet_on) | (go_big_quiet_op; go_big_quiet_on) | (go_big_quiet_op; refine ⟨_, fun _ _ => rfl, ?_⟩; go_big_quiet_on))))
 refine wpQuiet_nil ?_
 intro w' HM'
 clear HM; have HM := HM'; clear HM'
 go_upto_region 3 with (first | (go_at_call 59; have hco := Zb (Ex.made HM.out HG.out HX.out HF.out); (with_reducible refine (Vw p hi p1 h2 hco).mono ?_); clear hco; rintro e w' ⟨rfl, hc⟩; clear HM HF HG HX; obtain ⟨HF, HG, X, HX, HM⟩ := hc.out.hid; clear hc) | (go_at_call 22; have hco := Zb (Ex.made HM.out HG.out HX.out HF.out); (with_reducible refine (yL p (by exact Zb rfl) hco).mono ?_); clear hco; rintro e w' ⟨rfl, hc⟩; clear HM HF HG HX; obtain ⟨HF, HG, X, HX, HM⟩ := hc.out.hid; clear hc) | (go_at_call 49; have hco := Zb (Ex.made HM.out HG.out HX.out HF.out); (with_reducible refine (Zc7 _ y q q1 Hy1.out Hy2.out Hy3.out hco).mono ?_); clear hco; rintro e w' ⟨rfl, hc⟩; clear HM HF HG HX; obtain ⟨HF, HG, X, HX, HM⟩ := hc.out.hid; clear hc))
 (refine Zk 12 HM (by kernel_rfl) (by kernel_rfl) (by kernel_rfl) ?_; simp only [List.take_succ_cons, List.take_zero, List.drop_succ_cons, List.drop_zero]; (try simp only [Act.put, Ze, Zc, Zd]); repeat ((fail_if_success (with_reducible refine wpQuiet_nil ?_)); first | go_big_quiet_skip | (go_big_quiet_want; first | (refine a17 ?_; go_big_quiet_op; go_big_quiet_on) | (refine a18 ?_; go_big_quiet_op; go_big_quiet_on) | (go_big_quiet_op; go_big_quiet_on) | (go_big_quiet_op; refine ⟨_, fun _ _ => rfl, ?_⟩; go_big_quiet_on))))
 refine wpQuiet_nil ?_
 intro w' HM'
 clear HM; have HM := HM'; clear HM'
 go_wp2_with (first | (go_at_call 59; have hco := Zb (Ex.made HM.out HG.out HX.out HF.out); (with_reducible refine (Vw q lo q1 h1 hco).mono ?_); clear hco; rintro e w' ⟨rfl, hc⟩; clear HM HF HG HX; obtain ⟨HF, HG, X, HX, HM⟩ := hc.out.hid; clear hc))
 (first | go_end0 | ((try simp only [Exit.inBlock, Exit.then]); refine bodyPost_ret (results_none rfl _ _ _) rfl ?_))
 exact ⟨rfl, Zb (Ex.made HM.out HG.out HX.out HF.out)⟩
theorem yN (a : Nat) (ha : a < 65536) (h : Hid (Ex W0 w x b (s) tq ix pg l (n + 2))) :
  CX 28 #[.pointer (some ⟨x, 0, none⟩), .int .i64 (a : Int)] w (.int .i64 (s.numV a : Int)) fun w' => Hid (Ex W0 w' x b (s.num a) tq ix pg l n) := by
 obtain ⟨HF, HG, X, HX, HM⟩ := h.out.hid
 obtain ⟨m1, hm1⟩ : ∃ m, Hid (s.m a = m) := ⟨_, rfl⟩
 obtain ⟨m2, hm2⟩ : ∃ m, Hid (s.m (up1 a) = m) := ⟨_, rfl⟩
 have hm3 : Hid ((s.rd a).m (up1 a) = m2) := Zb hm2.out
 have h1 : m1 < 256 := by rw [← hm1.out]; exact h.out.fx.good.1 a
 have h2 : m2 < 256 := by rw [← hm2.out]; exact h.out.fx.good.1 _
 have a1 : up1 a < 65536 := Nat.mod_lt _ (by decide)
 have e1 : IntKind.u16.wrap ((a : Int) + 1) = ((up1 a : Nat) : Int) := by unfold up1; show ((a : Int) + 1) % 65536 = _; omega
 obtain ⟨r, hr⟩ : ∃ m, Hid (s.numV a = m) := ⟨_, rfl⟩
 have hj : Hid (m2 * 256 + m1 = r) := Zb (by rw [← hm1.out, ← hm2.out]; exact hr.out)
 have hn : r < 65536 := by have := hj.out; omega
 rw [hr.out]
 clear h
 go_enter Tryz.func28, Tryz.ntmps28
 go_wp2_with (first | ((with_reducible apply Yr HM); exact rfl; exact rfl; exact xS; exact .z; exact rfl; exact rfl) | (go_at_call 36; have hco := Zb (Ex.made HM.out HG.out HX.out HF.out); (with_reducible refine (jy a m1 ha hm1.out hco).mono ?_); clear hco; rintro e w' ⟨rfl, hc⟩; clear HM HF HG HX; obtain ⟨HF, HG, X, HX, HM⟩ := hc.out.hid; clear hc) | (go_at_call 36; have hco := Zb (Ex.made HM.out HG.out HX.out HF.out); (with_reducible refine (jy (up1 a) m2 a1 hm3.out hco).mono ?_); clear hco; rintro e w' ⟨rfl, hc⟩; clear HM HF HG HX; obtain ⟨HF, HG, X, HX, HM⟩ := hc.out.hid; clear hc) | (go_at_call 60; (with_reducible refine (Ze9 m2 m1 r h2 h1 hj.out _).mono ?_); rintro e w' ⟨rfl, rfl⟩))
 go_ret
 exact ⟨rfl, Zb (Ex.made HM.out HG.out HX.out HF.out)⟩
end
end Go.Proofs.YtgdeeiimkhjfiaaGreatDoor
