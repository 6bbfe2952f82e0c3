/-
  The laws' own helper portAlive answers true; the law PortNames; texts of bytes.
-/
import Derived.Test.YtbjghlcdbmooaaaPoLoad
import Derived.Test.YtbjghlcdbmooaaaPoDump
import Derived.Laws.BytesArg
import Derived.Laws.StructEq
namespace Go.Proofs.Ytbjghlcdbmooaaa
open Go.RowKit

/-- the text of bytes -/
def tx (ds : List Nat) : Value := .string (strOfNums (ds.map fun b : Nat => (b : Int)))
theorem text_at {W0 w : World} {l : Blks} {g off n c : Nat} {t : TypeId} {cs : List Value} {ds : List Nat} (h : Own W0 w l) (hsel : Sel l g t cs) (hn : ds.length = n) (hc : ∀ i, i < n → cs[off + i]? = some (.int .u8 ((ds.getD i 0 : Nat) : Int))) :
    (convert 25 9 (.slice (some ⟨g, off, none⟩) n c)).run Try.prog w = .ok (tx ds) w := by
  subst hn
  unfold tx
  refine run_convert_bytes_arg w 25 5 Try.underlying25 Try.underlying5 g off ds.length c _ (by simp) (fun i hi => ?_) 9 Try.underlying9
  rw [(h.at_ hsel).at_, hc i (by simpa using hi)]
  simp [List.getD_eq_getElem?_getD, hi]
/-- of a block that begins with these bytes -/
theorem text_of {W0 w : World} {l : Blks} {g n c : Nat} {ds : List Nat} {ex : List Value} (h : Own W0 w l) (hsel : Sel l g 5 (n8 ds ++ ex)) (hn : ds.length = n) :
    (convert 25 9 (.slice (some ⟨g, 0, none⟩) n c)).run Try.prog w = .ok (tx ds) w :=
  text_at h hsel hn fun i hi => by rw [Nat.zero_add, List.getElem?_append_left (by simpa using (by omega : i < ds.length)), n8_get _ _ (by omega)]
theorem text_whole {W0 w : World} {l : Blks} {g n c : Nat} {ds : List Nat} (h : Own W0 w l) (hsel : Sel l g 5 (n8 ds)) (hn : ds.length = n) :
    (convert 25 9 (.slice (some ⟨g, 0, none⟩) n c)).run Try.prog w = .ok (tx ds) w :=
  text_at h hsel hn fun i hi => by rw [Nat.zero_add, n8_get _ _ (by omega)]
theorem text_arr {W0 w : World} {l : Blks} {g n c : Nat} {t : TypeId} {ds : List Nat} (h : Own W0 w l) (hsel : Sel l g t (n8 ds)) (hn : ds.length = n) :
    (convert 25 9 (.slice (some ⟨g, 0, none⟩) n c)).run Try.prog w = .ok (tx ds) w :=
  text_at h hsel hn fun i hi => by rw [Nat.zero_add, n8_get _ _ (by omega)]

set_option maxRecDepth 100000 in
set_option maxHeartbeats 400000 in
theorem alive_any (w : World) : Calls Try.prog 8 #[] w fun e w' => e = .returned (.bool true) ∧ Below w.heap.size w w' := by
  have HM := Lib.hid (Own.start w)
  obtain ⟨s1, h1⟩ : ∃ s, Pt.control .nil 5 = s := ⟨_, rfl⟩
  have o1 : s1.Ok := by rw [← h1]; exact Pt.nil_ok.control (by decide)
  obtain ⟨s2, h2⟩ : ∃ s, Pt.control s1 129 = s := ⟨_, rfl⟩
  have o2 : s2.Ok := by rw [← h2]; exact o1.control (by decide)
  have HX : Hid (s2.rg.getD 1 0 = 5) := by rw [← h2, ← h1]; exact rfl
  have H1 := Lib.hid h1
  have H2 := Lib.hid h2
  clear h1 h2
  have K1 : ∀ (W0 w : World) (p : Nat) (l : Blks) (_ : Hid (Own W0 w (Po p .nil :: l))), Calls Try.prog 15 #[.pointer (some ⟨p, 0, none⟩), .int .u8 5] w fun e w' => e = .returned (.tuple #[]) ∧ Hid (Own W0 w' (Po p s1 :: l)) := fun _ _ _ _ h => by
    have := control_at 5 (by decide) Pt.nil_ok h
    rw [H1.out] at this
    exact this
  have K2 : ∀ (W0 w : World) (p : Nat) (l : Blks) (_ : Hid (Own W0 w (Po p s1 :: l))), Calls Try.prog 15 #[.pointer (some ⟨p, 0, none⟩), .int .u8 129] w fun e w' => e = .returned (.tuple #[]) ∧ Hid (Own W0 w' (Po p s2 :: l)) := fun _ _ _ _ h => by
    have := control_at 129 (by decide) o1 h
    rw [H2.out] at this
    exact this
  have K3 : ∀ (W0 w : World) (p : Nat) (l : Blks) (_ : Hid (Own W0 w (Po p s2 :: l))), Calls Try.prog 12 #[.pointer (some ⟨p, 0, none⟩), .int .i64 1] w fun e w' => e = .returned (.int .u8 5) ∧ Hid (Own W0 w' (Po p s2 :: l)) := fun _ _ _ _ h => by
    have := reg_in 1 (by decide) o2 h
    rw [HX.out] at this
    exact this
  have HK1 := Lib.hid K1
  have HK2 := Lib.hid K2
  have HK3 := Lib.hid K3
  clear K1 K2 K3
  go_enter Try.func8, Try.ntmps8
  go_wp2_with (first
    | (go_at_call 9; (with_reducible refine (new_at HM).mono ?_); rintro e w' ⟨p, rfl, HM'⟩; clear HM; have HM := HM'; clear HM')
    | (go_at_call 15; (with_reducible refine (HK1.out _ _ _ _ HM).mono ?_); rintro e w' ⟨rfl, HM'⟩; clear HM; have HM := HM'; clear HM')
    | (go_at_call 15; (with_reducible refine (HK2.out _ _ _ _ HM).mono ?_); rintro e w' ⟨rfl, HM'⟩; clear HM; have HM := HM'; clear HM')
    | (go_at_call 12; (with_reducible refine (HK3.out _ _ _ _ HM).mono ?_); rintro e w' ⟨rfl, HM'⟩; clear HM; have HM := HM'; clear HM')
    | (go_at_call 24; (with_reducible refine (vram_at o2 HM).mono ?_); rintro e w' ⟨g, cap, ex, rfl, HM'⟩; have HM2 := Lib.hid HM'.out.forget; clear HM HM'; have HM := HM2; clear HM2)
    | (go_at_call 25; (with_reducible refine (cram_at o2 HM).mono ?_); rintro e w' ⟨g, cap, ex, rfl, HM'⟩; have HM2 := Lib.hid HM'.out.forget; clear HM HM'; have HM := HM2; clear HM2))
  go_ret
  exact ⟨rfl, Own.fin HM⟩

theorem eq11_run (w : World) : (Op.equalIn 10000 30 (.agg #[.int .u8 0, .int .u8 0, .int .u8 0, .int .u8 0, .int .u8 0, .int .u8 0, .int .u8 0, .int .u8 0, .int .u8 0, .int .u8 0, .int .u8 0]) (.agg #[.int .u8 0, .int .u8 0, .int .u8 0, .int .u8 0, .int .u8 0, .int .u8 0, .int .u8 0, .int .u8 0, .int .u8 0, .int .u8 0, .int .u8 0])).run Try.prog w = .ok true w := by
  unfold Op.equalIn
  simp only [Sem.run_bind, Try.runUnderlying30, Result.andThen_ok]
  have hr : List.range' 0 11 = [0, 1, 2, 3, 4, 5, 6, 7, 8, 9, 10] := rfl
  have e (a b : Int) (w : World) : (Op.equalIn 9999 5 (.int .u8 a) (.int .u8 b)).run Try.prog w = .ok (a == b) w := run_equalIn_int w 9998 5 .u8 .u8 a b Try.underlying5
  simp [go_sem, hr, e]

set_option maxRecDepth 100000 in
set_option maxHeartbeats 400000 in
theorem names_any (w : World) : Calls Try.prog 3 #[] w fun e w' => e = .returned (.bool true) ∧ Below w.heap.size w w' := by
  have HM := Lib.hid (Own.start w)
  obtain ⟨s, hs⟩ : ∃ s, s = Pt.nil := ⟨_, rfl⟩
  have o1 : s.Ok := by rw [hs]; exact Pt.nil_ok
  have hq := eq11_run
  have HG : Hid ((n8 s.rg).toArray = #[.int .u8 0, .int .u8 0, .int .u8 0, .int .u8 0, .int .u8 0, .int .u8 0, .int .u8 0, .int .u8 0, .int .u8 0, .int .u8 0, .int .u8 0]) := by rw [hs]; rfl
  have HS := Lib.hid hs
  clear hs
  go_enter Try.func3, Try.ntmps3
  go_wp2_with (first
    | (go_at_call 8; (with_reducible refine (alive_any _).mono ?_); rintro e w' ⟨rfl, hb⟩; replace HM := Lib.hid (HM.out.call hb); clear hb)
    | (go_at_call 9; (with_reducible refine (new_at HM).mono ?_); rw [← HS.out]; rintro e w' ⟨p, rfl, HM'⟩; clear HM; have HM := HM'; clear HM')
    | (go_at_call 10; (with_reducible refine (dump_at o1 HM).mono ?_); rintro e w' ⟨g, cap, ex, rfl, hc, HM'⟩; have HM2 := Lib.hid HM'.out.forget; clear HM HM' hc; have HM := HM2; clear HM2)
    | (go_at_call 11; (with_reducible refine (load_nil _ _).mono ?_); rintro e w' ⟨rfl, rfl⟩)
    | (go_at_call 12; (with_reducible refine (reg_out _ (by decide) o1 HM).mono ?_); rintro e w' ⟨rfl, HM'⟩; clear HM; have HM := HM'; clear HM')
    | (go_at_call 13; (with_reducible refine (regs_at o1 HM).mono ?_); rw [HG.out]; rintro e w' ⟨rfl, HM'⟩; clear HM; have HM := HM'; clear HM'))
  go_ret
  exact ⟨rfl, Own.fin HM⟩

end Go.Proofs.Ytbjghlcdbmooaaa
