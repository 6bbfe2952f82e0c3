/-
  What a slice of acts that came in holds; what acts make of a port; a port of the program ahead of one of the document; the law's own helper read.
-/
import Derived.Test.YtbjghlcdbmooaaaPoAlive
import Derived.Test.YtbjghlcdbmooaaaPoRLoad
import Derived.Test.YtbjghlcdbmooaaaPoRDump
import Derived.ProofKit
import Derived.OpenShut
import Derived.ChangeOld
import Derived.Below
import Derived.Lib.SmallJoins
import Derived.Deep.Slices
namespace Go.Proofs.Ytbjghlcdbmooaaa
open Go.ChangeShapes Go.WideShapes Go.ChangeAt Go.RowKit Go.Joins Go.Deep

/-- the acts that came in: what lies in memory below block B -/
def ActsIn (w : World) (B : Nat) (a : Option Addr) (n : Nat) (ac : Nat → Int × Int × Nat) : Prop :=
  0 < n → ∃ g o, a = some ⟨g, o, none⟩ ∧ g < B ∧ ∀ i, i < n → w.cell? ⟨g, o + i * 3, none⟩ = some (.int .i64 (ac i).1) ∧ w.cell? ⟨g, o + i * 3 + 1, none⟩ = some (.int .i64 (ac i).2.1) ∧ w.cell? ⟨g, o + i * 3 + 2, none⟩ = some (.int .u8 ((ac i).2.2 : Int)) ∧
    (ac i).2.2 < 256
theorem actCells : Try.prog.cellsOf 36 = 3 := by kernel_rfl
theorem act_cells {H : Type} {enc : TypeId × Value → H} {W : World} {fuel : Nat} {cs : List Value} {y : DataW H × List MemPlace} (h : DataW.trod enc Try.prog W 0 (fun _ => true) true fuel 36 cs = some y) :
    ∃ x : Int × Int × Nat, cs = [.int .i64 x.1, .int .i64 x.2.1, .int .u8 (x.2.2 : Int)] ∧ x.2.2 < 256 := by
  obtain ⟨y0, y1, y2, n, hx, hl, h0, h1, h2⟩ := trod_struct3 Try.underlying36 h
  rw [actCells] at hl
  match cs, hl with
  | [c0, c1, c2], _ =>
    have k0 : Try.prog.cellsOf 3 = 1 := by kernel_rfl
    have k2 : Try.prog.cellsOf 5 = 1 := by kernel_rfl
    simp [k0] at h0
    simp [k0] at h1
    simp [k2] at h2
    obtain ⟨a, e0, _, _⟩ := DataW.trod_int Try.underlying3 h0
    obtain ⟨b, e1, _, w1⟩ := DataW.trod_int Try.underlying3 h1
    obtain ⟨c, e2, _, w2⟩ := DataW.trod_int Try.underlying5 h2
    simp at e0 e1 e2
    have hb := bounds_u8 w2
    obtain ⟨c, rfl⟩ := Int.eq_ofNat_of_zero_le hb.1
    exact ⟨(a, b, c), by rw [e0, e1, e2], show c < 256 by omega⟩

theorem acts_in {H : Type} {enc : TypeId × Value → H} {W : World} {b0 : Nat} {v : Value} {d : DataW H} {q : List MemPlace} (hv : Value.okWide Try.prog W .any b0 32 v) (h : DataW.Trod enc Try.prog W 0 (fun _ => true) true 32 v d q) :
    ∃ a n cap ac, v = .slice a n cap ∧ ActsIn W W.heap.size a n ac := by
  obtain ⟨a, n, cap, rfl⟩ := okWide_slice Try.underlying32 hv
  obtain ⟨fuel, hf⟩ := h
  rcases open_slice Try.underlying32 hf with ⟨hcs, _⟩ | ⟨ad, l, cp, m, k, D, Pl, hcs, _, hl, hm, hmm, _, hx⟩
  · simp [Value.cells] at hcs
    obtain ⟨rfl, rfl, rfl⟩ := hcs
    exact ⟨none, 0, 0, fun _ => (0, 0, 0), rfl, fun h => absurd h (by omega)⟩
  · simp [Value.cells] at hcs
    obtain ⟨rfl, rfl, rfl⟩ := hcs
    simp at hmm
    subst hmm
    rw [actCells] at hx
    obtain ⟨ac, hac⟩ := choose_lt (α := Int × Int × Nat) (n := n) (p := fun i x => W.cell? ((ad.add (i * 3)).add 0) = some (.int .i64 x.1) ∧ W.cell? ((ad.add (i * 3)).add 1) = some (.int .i64 x.2.1) ∧ W.cell? ((ad.add (i * 3)).add 2) = some (.int .u8 (x.2.2 : Int)) ∧ x.2.2 < 256) (fun i hi => by
      obtain ⟨cs', h1, h2⟩ := hx i (by omega)
      obtain ⟨_, hlen, hc⟩ := World.cells?_some h1
      obtain ⟨x, rfl, b1⟩ := act_cells h2
      exact ⟨x, hc 0 (by omega), hc 1 (by omega), hc 2 (by omega), b1⟩)
    refine ⟨some ad, n, _, ac, rfl, fun hn => ?_⟩
    have h0 := (hac 0 hn).1
    obtain ⟨g, o, s⟩ := ad
    have hs : s = none := by simpa [Addr.add] using World.cell?_spot h0
    subst hs
    have hg : g < W.heap.size := by
      have := World.block_lt_of_cell? W _ h0
      simpa [Addr.add] using this
    refine ⟨g, o, rfl, hg, fun i hi => ?_⟩
    have hi' := hac i hi
    have e0 : (⟨g, o, none⟩ : Addr).add (i * 3) = ⟨g, o + i * 3, none⟩ := by unfold Addr.add; split <;> simp_all
    have e1 : (⟨g, o + i * 3, none⟩ : Addr).add 0 = ⟨g, o + i * 3, none⟩ := by simp [Addr.add]
    have e2 : (⟨g, o + i * 3, none⟩ : Addr).add 1 = ⟨g, o + i * 3 + 1, none⟩ := by simp [Addr.add]
    have e3 : (⟨g, o + i * 3, none⟩ : Addr).add 2 = ⟨g, o + i * 3 + 2, none⟩ := by simp [Addr.add]
    rw [e0, e1, e2, e3] at hi'
    exact hi'

/-- what an act of the three first kinds makes of a port -/
def Pt.act (s : Pt) (x : Int × Int × Nat) : Pt := if x.1 = 0 then s.control x.2.2 else if x.1 = 1 then s.write x.2.2 else if x.1 = 2 then s.read else s
def runK (ac : Nat → Int × Int × Nat) : Nat → Pt
  | 0 => .nil
  | k + 1 => (runK ac k).act (ac k)
theorem Pt.Ok.act {s : Pt} (h : s.Ok) {x : Int × Int × Nat} (hx : x.2.2 < 256) : (s.act x).Ok := by
  unfold Pt.act
  split
  · exact h.control hx
  · split
    · exact h.write hx
    · split
      · exact h.read
      · exact h
theorem runK_ok (ac : Nat → Int × Int × Nat) : ∀ k, (∀ i, i < k → (ac i).2.2 < 256) → (runK ac k).Ok
  | 0, _ => Pt.nil_ok
  | k + 1, h => (runK_ok ac k fun i hi => h i (by omega)).act (h k (by omega))

theorem aggAct : Agg Try.prog 36 3 := ⟨⟨_, Try.underlying36, rfl⟩, by kernel_rfl⟩
theorem zeroAct : Zero Try.prog 36 [.int .i64 0, .int .i64 0, .int .u8 0] := ⟨.agg #[.int .i64 0, .int .i64 0, .int .u8 0], fun _ => by kernel_rfl, rfl⟩
section
variable {P : Program} {W0 w : World} {l l' : Blks} {ops : Array Oper} {rest : List Oper} {o : Oper} {a : Act} {Q : Exit → Act → World → Prop}
/-- a struct of three cells in memory from before -/
theorem own_old3 {ty : TypeId} {x : Operand} {g off : Nat} {v0 v1 v2 : Value} (HM : Hid (Own W0 w l)) (ho : o.op = .load ty x) (hx : a.eval x = .pointer (some ⟨g, off, none⟩)) (hty : Agg P ty 3)
    (h0 : W0.cell? ⟨g, off, none⟩ = some v0) (h1 : W0.cell? ⟨g, off + 1, none⟩ = some v1) (h2 : W0.cell? ⟨g, off + 2, none⟩ = some v2) (hw : Region.wanted o (yielded ops a.tmps) = true)
    (h : wpList P ops Q rest (a.put o.dst (.agg #[v0, v1, v2])) w) : wpList P ops Q (o :: rest) a w := by
  refine wpList_wanted hw fun K hK => ?_
  obtain ⟨⟨d, hu, hr⟩, hsz⟩ := hty
  refine wp_load_mid ty x ho g off hx [v0, v1, v2] d ?_ hu hr (by simpa using hsz) (hK _ _ h)
  intro j v hv
  have k0 := (HM.out.below.cell (block_lt_of_cell h0)).trans h0
  have k1 := (HM.out.below.cell (block_lt_of_cell h1)).trans h1
  have k2 := (HM.out.below.cell (block_lt_of_cell h2)).trans h2
  match j, hv with
  | 0, hv => cases hv; exact k0
  | 1, hv => cases hv; exact k1
  | 2, hv => cases hv; exact k2
/-- one block behind the next four -/
theorem Own.behind {x a b c d : Nat × TypeId × List Value} (h : Own W0 w (x :: a :: b :: c :: d :: l)) : Own W0 w (a :: b :: c :: d :: x :: l) :=
  h.perm ((List.Perm.swap _ _ _).trans (.cons _ ((List.Perm.swap _ _ _).trans (.cons _ ((List.Perm.swap _ _ _).trans (.cons _ (List.Perm.swap _ _ _)))))))
theorem Own.ahead {x a b c d : Nat × TypeId × List Value} (h : Own W0 w (a :: b :: c :: d :: x :: l)) : Own W0 w (x :: a :: b :: c :: d :: l) :=
  h.perm ((List.Perm.swap _ _ _).trans (.cons _ ((List.Perm.swap _ _ _).trans (.cons _ ((List.Perm.swap _ _ _).trans (.cons _ (List.Perm.swap _ _ _))))))).symm
end

set_option maxRecDepth 100000 in
set_option maxHeartbeats 1600000 in
theorem read_any {W0 w : World} {l : Blks} (a : Option Addr) (n cap : Nat) (hn : n ≤ 300) (ac : Nat → Int × Int × Nat) (ha : ActsIn W0 W0.heap.size a n ac) (x : Nat) (hx : Hid ((runK ac n).bu = x)) (h : Hid (Own W0 w l)) :
    Calls Try.prog 26 #[.slice a n cap] w fun e w' => e = .returned (.int .u8 (x : Int)) ∧ Hid (Own W0 w' l) := by
  have HM := h
  have HA := Lib.hid ha
  have tg1 : Hid True := trivial
  clear h ha
  go_enter Try.func26, Try.ntmps26
  go_wp2_with (go_at_call 14; (with_reducible refine (rnew_at HM).mono ?_); rintro e w' ⟨p, d, c, g, rfl, HM'⟩; clear HM; have HM := HM'; clear HM')
  go_loopw [9] (fun at_ wr => ∃ (k : Nat), k ≤ n ∧ at_ = .int .i64 (k : Int) ∧ Hid (Own W0 wr (Rp p d c g (runK ac k) l))) (fun at_ _ => n - (intOf at_).toNat)
  case atStart => exact ⟨0, by omega, rfl, HM⟩
  case round =>
    clear HM
    obtain ⟨k, hk, rfl, HM⟩ := hrel
    have hok : ∀ j, j ≤ n → (runK ac j).Ok := fun j hj => runK_ok ac j fun i hi => by
      obtain ⟨g, o, rfl, hg, hc⟩ := HA.out (by omega)
      exact (hc i (by omega)).2.2.2
    obtain ⟨s, hs⟩ : ∃ s, runK ac k = s := ⟨_, rfl⟩
    have o1 := hok k hk
    rw [hs] at HM o1
    by_cases hlt : k < n
    · have hlt2 : (k : Int) < (n : Int) := by omega
      have hk3 : (k : Int) < 300 := by omega
      obtain ⟨ga, o, rfl, hg, hc⟩ := HA.out (by omega)
      obtain ⟨y0, y1, y2, y3⟩ := hc k hlt
      have hnext : runK ac (k + 1) = s.act (ac k) := by show (runK ac k).act (ac k) = _; rw [hs]
      obtain ⟨⟨kind, at_, v⟩, hx⟩ : ∃ x, ac k = x := ⟨_, rfl⟩
      rw [hx] at y0 y1 y2 y3 hnext
      have Y0 := Lib.hid y0
      have Y1 := Lib.hid y1
      have Y2 := Lib.hid y2
      have HN := Lib.hid hnext
      clear hk hc y0 y1 y2 hnext hs hok hx
      by_cases k0 : kind = 0
      · subst k0
        go_wp2_with (first
          | ((with_reducible apply own_box HM); exact rfl; (conv => lhs; whnf); exact rfl; exact rfl; (first | (clear tg1; intro w' g1 HM') | (clear tg2; intro w' g2 HM') | (clear tg3; intro w' g3 HM') | (clear tg4; intro w' g4 HM') | intro w' g' HM'); clear HM; have HM := HM'; clear HM'; all_goals skip) | ((with_reducible apply own_alloc HM); exact rfl; (first | (with_reducible exact zeroAct)); exact rfl; (first | (clear tg1; intro w' g1 HM') | (clear tg2; intro w' g2 HM') | (clear tg3; intro w' g3 HM') | (clear tg4; intro w' g4 HM') | intro w' g' HM'); clear HM; have HM := HM'; clear HM'; all_goals skip) | ((with_reducible apply own_cell HM); exact rfl; exact rfl; (first | (with_reducible exact oneInt) | (with_reducible exact oneU8)); (first | with_reducible exact .z | with_reducible exact .s .z | with_reducible exact .s (.s .z) | with_reducible exact .s (.s (.s .z)) | with_reducible exact .s (.s (.s (.s .z))) | with_reducible exact .s (.s (.s (.s (.s .z))))); (focus repeat' (first | with_reducible exact .z | with_reducible apply Drop.s)); exact rfl; all_goals skip) | ((with_reducible apply own_load HM); exact rfl; exact rfl; (first | (with_reducible exact aggAct)); (first | with_reducible exact .z | with_reducible exact .s .z | with_reducible exact .s (.s .z) | with_reducible exact .s (.s (.s .z)) | with_reducible exact .s (.s (.s (.s .z))) | with_reducible exact .s (.s (.s (.s (.s .z))))); (focus repeat' (first | with_reducible exact .z | with_reducible apply Drop.s)); (focus repeat' (first | with_reducible exact .z | with_reducible apply Take.s)); exact rfl; all_goals skip) | ((with_reducible apply own_store HM); exact rfl; exact rfl; (conv => lhs; whnf); exact rfl; (first | with_reducible exact .z | with_reducible exact .s .z | with_reducible exact .s (.s .z) | with_reducible exact .s (.s (.s .z)) | with_reducible exact .s (.s (.s (.s .z))) | with_reducible exact .s (.s (.s (.s (.s .z))))); (focus repeat' (first | with_reducible exact .z | with_reducible apply Over.p | with_reducible apply Over.s)); (first | with_reducible exact .z | with_reducible exact .s .z | with_reducible exact .s (.s .z) | with_reducible exact .s (.s (.s .z)) | with_reducible exact .s (.s (.s (.s .z))) | with_reducible exact .s (.s (.s (.s (.s .z))))); (first | (with_reducible exact (aggAct).size) | (with_reducible exact (oneInt).size) | (with_reducible exact (oneU8).size)); exact rfl; exact rfl; exact rfl; exact rfl; intro w' HM'; clear HM; have HM := HM'; clear HM'; all_goals skip)
          | ((with_reducible apply own_old3 HM); exact rfl; exact rfl; exact aggAct; exact Y0.out; exact Y1.out; exact Y2.out; exact rfl; all_goals skip)
          | (go_at_call 16; (with_reducible refine (rcontrol_at v y3 o1 (Lib.hid HM.out.behind)).mono ?_); rintro e w' ⟨rfl, HM'⟩; clear HM; have HM := HM'; clear HM'))
        go_roundw
        case rel => exact ⟨k + 1, by omega, by go_num, by rw [HN.out]; unfold Pt.act; rw [if_pos rfl]; exact Lib.hid HM.out.ahead.forget⟩
        case measure => simp [intOf]; omega
      · by_cases k1 : kind = 1
        · subst k1
          go_wp2_with (first
            | ((with_reducible apply own_box HM); exact rfl; (conv => lhs; whnf); exact rfl; exact rfl; (first | (clear tg1; intro w' g1 HM') | (clear tg2; intro w' g2 HM') | (clear tg3; intro w' g3 HM') | (clear tg4; intro w' g4 HM') | intro w' g' HM'); clear HM; have HM := HM'; clear HM'; all_goals skip) | ((with_reducible apply own_alloc HM); exact rfl; (first | (with_reducible exact zeroAct)); exact rfl; (first | (clear tg1; intro w' g1 HM') | (clear tg2; intro w' g2 HM') | (clear tg3; intro w' g3 HM') | (clear tg4; intro w' g4 HM') | intro w' g' HM'); clear HM; have HM := HM'; clear HM'; all_goals skip) | ((with_reducible apply own_cell HM); exact rfl; exact rfl; (first | (with_reducible exact oneInt) | (with_reducible exact oneU8)); (first | with_reducible exact .z | with_reducible exact .s .z | with_reducible exact .s (.s .z) | with_reducible exact .s (.s (.s .z)) | with_reducible exact .s (.s (.s (.s .z))) | with_reducible exact .s (.s (.s (.s (.s .z))))); (focus repeat' (first | with_reducible exact .z | with_reducible apply Drop.s)); exact rfl; all_goals skip) | ((with_reducible apply own_load HM); exact rfl; exact rfl; (first | (with_reducible exact aggAct)); (first | with_reducible exact .z | with_reducible exact .s .z | with_reducible exact .s (.s .z) | with_reducible exact .s (.s (.s .z)) | with_reducible exact .s (.s (.s (.s .z))) | with_reducible exact .s (.s (.s (.s (.s .z))))); (focus repeat' (first | with_reducible exact .z | with_reducible apply Drop.s)); (focus repeat' (first | with_reducible exact .z | with_reducible apply Take.s)); exact rfl; all_goals skip) | ((with_reducible apply own_store HM); exact rfl; exact rfl; (conv => lhs; whnf); exact rfl; (first | with_reducible exact .z | with_reducible exact .s .z | with_reducible exact .s (.s .z) | with_reducible exact .s (.s (.s .z)) | with_reducible exact .s (.s (.s (.s .z))) | with_reducible exact .s (.s (.s (.s (.s .z))))); (focus repeat' (first | with_reducible exact .z | with_reducible apply Over.p | with_reducible apply Over.s)); (first | with_reducible exact .z | with_reducible exact .s .z | with_reducible exact .s (.s .z) | with_reducible exact .s (.s (.s .z)) | with_reducible exact .s (.s (.s (.s .z))) | with_reducible exact .s (.s (.s (.s (.s .z))))); (first | (with_reducible exact (aggAct).size) | (with_reducible exact (oneInt).size) | (with_reducible exact (oneU8).size)); exact rfl; exact rfl; exact rfl; exact rfl; intro w' HM'; clear HM; have HM := HM'; clear HM'; all_goals skip)
            | ((with_reducible apply own_old3 HM); exact rfl; exact rfl; exact aggAct; exact Y0.out; exact Y1.out; exact Y2.out; exact rfl; all_goals skip)
            | (go_at_call 18; (with_reducible refine (rwrite_at v y3 o1 (Lib.hid HM.out.behind)).mono ?_); rintro e w' ⟨rfl, HM'⟩; clear HM; have HM := HM'; clear HM'))
          go_roundw
          case rel => exact ⟨k + 1, by omega, by go_num, by rw [HN.out]; unfold Pt.act; rw [if_neg (show ¬ (1 : Int) = 0 by decide), if_pos rfl]; exact Lib.hid HM.out.ahead.forget⟩
          case measure => simp [intOf]; omega
        · by_cases k2 : kind = 2
          · subst k2
            go_wp2_with (first
              | ((with_reducible apply own_box HM); exact rfl; (conv => lhs; whnf); exact rfl; exact rfl; (first | (clear tg1; intro w' g1 HM') | (clear tg2; intro w' g2 HM') | (clear tg3; intro w' g3 HM') | (clear tg4; intro w' g4 HM') | intro w' g' HM'); clear HM; have HM := HM'; clear HM'; all_goals skip) | ((with_reducible apply own_alloc HM); exact rfl; (first | (with_reducible exact zeroAct)); exact rfl; (first | (clear tg1; intro w' g1 HM') | (clear tg2; intro w' g2 HM') | (clear tg3; intro w' g3 HM') | (clear tg4; intro w' g4 HM') | intro w' g' HM'); clear HM; have HM := HM'; clear HM'; all_goals skip) | ((with_reducible apply own_cell HM); exact rfl; exact rfl; (first | (with_reducible exact oneInt) | (with_reducible exact oneU8)); (first | with_reducible exact .z | with_reducible exact .s .z | with_reducible exact .s (.s .z) | with_reducible exact .s (.s (.s .z)) | with_reducible exact .s (.s (.s (.s .z))) | with_reducible exact .s (.s (.s (.s (.s .z))))); (focus repeat' (first | with_reducible exact .z | with_reducible apply Drop.s)); exact rfl; all_goals skip) | ((with_reducible apply own_load HM); exact rfl; exact rfl; (first | (with_reducible exact aggAct)); (first | with_reducible exact .z | with_reducible exact .s .z | with_reducible exact .s (.s .z) | with_reducible exact .s (.s (.s .z)) | with_reducible exact .s (.s (.s (.s .z))) | with_reducible exact .s (.s (.s (.s (.s .z))))); (focus repeat' (first | with_reducible exact .z | with_reducible apply Drop.s)); (focus repeat' (first | with_reducible exact .z | with_reducible apply Take.s)); exact rfl; all_goals skip) | ((with_reducible apply own_store HM); exact rfl; exact rfl; (conv => lhs; whnf); exact rfl; (first | with_reducible exact .z | with_reducible exact .s .z | with_reducible exact .s (.s .z) | with_reducible exact .s (.s (.s .z)) | with_reducible exact .s (.s (.s (.s .z))) | with_reducible exact .s (.s (.s (.s (.s .z))))); (focus repeat' (first | with_reducible exact .z | with_reducible apply Over.p | with_reducible apply Over.s)); (first | with_reducible exact .z | with_reducible exact .s .z | with_reducible exact .s (.s .z) | with_reducible exact .s (.s (.s .z)) | with_reducible exact .s (.s (.s (.s .z))) | with_reducible exact .s (.s (.s (.s (.s .z))))); (first | (with_reducible exact (aggAct).size) | (with_reducible exact (oneInt).size) | (with_reducible exact (oneU8).size)); exact rfl; exact rfl; exact rfl; exact rfl; intro w' HM'; clear HM; have HM := HM'; clear HM'; all_goals skip)
              | ((with_reducible apply own_old3 HM); exact rfl; exact rfl; exact aggAct; exact Y0.out; exact Y1.out; exact Y2.out; exact rfl; all_goals skip)
              | (go_at_call 20; (with_reducible refine (rread_at o1 (Lib.hid HM.out.behind)).mono ?_); rintro e w' ⟨rfl, HM'⟩; clear HM; have HM := HM'; clear HM'))
            go_roundw
            case rel => exact ⟨k + 1, by omega, by go_num, by rw [HN.out]; unfold Pt.act; rw [if_neg (show ¬ (2 : Int) = 0 by decide), if_neg (show ¬ (2 : Int) = 1 by decide), if_pos rfl]; exact Lib.hid HM.out.ahead.forget⟩
            case measure => simp [intOf]; omega
          · go_wp2_with (first
        | ((with_reducible apply own_box HM); exact rfl; (conv => lhs; whnf); exact rfl; exact rfl; (first | (clear tg1; intro w' g1 HM') | (clear tg2; intro w' g2 HM') | (clear tg3; intro w' g3 HM') | (clear tg4; intro w' g4 HM') | intro w' g' HM'); clear HM; have HM := HM'; clear HM'; all_goals skip) | ((with_reducible apply own_alloc HM); exact rfl; (first | (with_reducible exact zeroAct)); exact rfl; (first | (clear tg1; intro w' g1 HM') | (clear tg2; intro w' g2 HM') | (clear tg3; intro w' g3 HM') | (clear tg4; intro w' g4 HM') | intro w' g' HM'); clear HM; have HM := HM'; clear HM'; all_goals skip) | ((with_reducible apply own_cell HM); exact rfl; exact rfl; (first | (with_reducible exact oneInt) | (with_reducible exact oneU8)); (first | with_reducible exact .z | with_reducible exact .s .z | with_reducible exact .s (.s .z) | with_reducible exact .s (.s (.s .z)) | with_reducible exact .s (.s (.s (.s .z))) | with_reducible exact .s (.s (.s (.s (.s .z))))); (focus repeat' (first | with_reducible exact .z | with_reducible apply Drop.s)); exact rfl; all_goals skip) | ((with_reducible apply own_load HM); exact rfl; exact rfl; (first | (with_reducible exact aggAct)); (first | with_reducible exact .z | with_reducible exact .s .z | with_reducible exact .s (.s .z) | with_reducible exact .s (.s (.s .z)) | with_reducible exact .s (.s (.s (.s .z))) | with_reducible exact .s (.s (.s (.s (.s .z))))); (focus repeat' (first | with_reducible exact .z | with_reducible apply Drop.s)); (focus repeat' (first | with_reducible exact .z | with_reducible apply Take.s)); exact rfl; all_goals skip) | ((with_reducible apply own_store HM); exact rfl; exact rfl; (conv => lhs; whnf); exact rfl; (first | with_reducible exact .z | with_reducible exact .s .z | with_reducible exact .s (.s .z) | with_reducible exact .s (.s (.s .z)) | with_reducible exact .s (.s (.s (.s .z))) | with_reducible exact .s (.s (.s (.s (.s .z))))); (focus repeat' (first | with_reducible exact .z | with_reducible apply Over.p | with_reducible apply Over.s)); (first | with_reducible exact .z | with_reducible exact .s .z | with_reducible exact .s (.s .z) | with_reducible exact .s (.s (.s .z)) | with_reducible exact .s (.s (.s (.s .z))) | with_reducible exact .s (.s (.s (.s (.s .z))))); (first | (with_reducible exact (aggAct).size) | (with_reducible exact (oneInt).size) | (with_reducible exact (oneU8).size)); exact rfl; exact rfl; exact rfl; exact rfl; intro w' HM'; clear HM; have HM := HM'; clear HM'; all_goals skip)
        | ((with_reducible apply own_old3 HM); exact rfl; exact rfl; exact aggAct; exact Y0.out; exact Y1.out; exact Y2.out; exact rfl; all_goals skip)
              | fail)
            go_roundw
            case rel => exact ⟨k + 1, by omega, by go_num, by rw [HN.out]; unfold Pt.act; rw [if_neg k0, if_neg k1, if_neg k2]; exact Lib.hid HM.out.forget⟩
            case measure => simp [intOf]; omega
    · have hlt2 : ¬ (k : Int) < (n : Int) := by omega
      obtain rfl : k = n := by omega
      have HB : Hid (s.bu = x) := by rw [← hs]; exact hx
      clear hk hok hlt hs
      go_wp2_with (go_at_call 20; (with_reducible refine (rread_at o1 HM).mono ?_); rw [HB.out]; rintro e w' ⟨rfl, HM'⟩; clear HM; have HM := HM'; clear HM')
      go_ret
      exact ⟨rfl, HM.out.forget.forget.forget.forget⟩

end Go.Proofs.Ytbjghlcdbmooaaa
