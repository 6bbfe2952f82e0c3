/-
  Package bus's Read and Write, by contracts over any bus.
-/
import Derived.Test.YtlnoomganphbeaaBusPlace
namespace Go.Proofs.Ytlnoomganphbeaa
open Go.RowKit

/-- what is read at an address: of the cartridge's bytes rs of M banks, and what may change -/
def readOf (rs : List Int) (M : Int) (zs : List Int) (a : Int) : Int :=
  match placeOf zs a with
  | some i => zs.getD i 0
  | none => rs.getD (bankOf zs a % M * 16384 + a % 16384).toNat 0
/-- what may change, behind a write -/
def placeSet (zs : List Int) (a v : Int) : List Int := match placeOf zs a with
  | some i => zs.set i v
  | none => zs
def writeOf (zs : List Int) (a v : Int) : List Int :=
  if 65532 ≤ a then (placeSet zs a v).set (40960 + (a - 65532).toNat) v else placeSet zs a v
theorem placeOf_none {zs : List Int} {a : Int} (h : placeOf zs a = none) : a < 49152 := by
  unfold placeOf at h
  split at h
  · cases h
  · omega

theorem at_quiet (b : Nat) (zs : List Int) (M : Int) (hM : RomFit zs M) (w : World) (h : RomAt w b zs) (x y v : Int) (hv : zs.getD (x % M * 16384 + y % 16384).toNat 0 = v) :
    Calls Try.prog 24 #[.pointer (some ⟨b, 0, none⟩), .int .i64 x, .int .i64 y] w fun e w' => e = .returned (.int .u8 v) ∧ w' = w := by
  subst hv
  exact (at_any b zs M hM w h x y).mono fun _ _ h => ⟨h.1, h.2.symm⟩
theorem bank_quiet (b g : Nat) (zs : List Int) (a : Int) (h0 : 0 ≤ a) (h1 : a < 49152) (w : World) (h : BusAt w b g zs) (k : Int) (hk : bankOf zs a = k) :
    Calls Try.prog 28 #[.pointer (some ⟨b, 0, none⟩), .int .u16 a] w fun e w' => e = .returned (.int .i64 k) ∧ w' = w := by
  subst hk
  exact (bank_any b g zs a h0 h1 w h).mono fun _ _ h => ⟨h.1, h.2.symm⟩

set_option maxRecDepth 100000 in
set_option maxHeartbeats 800000 in
theorem read_any (b g : Nat) (zs rs : List Int) (M : Int) (hM : RomFit rs M) (a : Int) (h0 : 0 ≤ a) (h1 : a ≤ 65535) (w : World) (h : BusAt w b g zs) (hr : RomAt w g rs) :
    Calls Try.prog 18 #[.pointer (some ⟨b, 0, none⟩), .int .u16 a] w fun e w' => e = .returned (.int .u8 (readOf rs M zs a)) ∧ ∃ n, w' = w.drewN n := by
  have H := Lib.hid h
  have HR := Lib.hid hr
  have HM := Lib.hid hM
  have c0 := h.rom
  cases hp : placeOf zs a with
  | some i =>
    have HP : Hid (placeV zs a b = some ⟨b, 1 + i, none⟩) := by show _ = _; rw [placeV, hp]; rfl
    have HV : Hid (readOf rs M zs a = zs.getD i 0) := by show _ = _; rw [readOf, hp]
    have hc := h.byte i (by have := placeOf_lt hp; omega)
    generalize zs.getD i 0 = v at *
    clear h hr hM hp
    go_enter Try.func18, Try.ntmps18
    go_wp2_with (go_at_call 27; refine (place_any b g zs a h0 h1 _ H.out).mono ?_; rw [HP.out]; rintro e w' ⟨rfl, rfl⟩)
    go_ret
    exact ⟨by rw [HV.out]; rfl, 0, rfl⟩
  | none =>
    have HP : Hid (placeV zs a b = none) := by show _ = _; rw [placeV, hp]; rfl
    have hlt := placeOf_none hp
    obtain ⟨k, hk⟩ : ∃ k, bankOf zs a = k := ⟨_, rfl⟩
    obtain ⟨v, hv⟩ : ∃ v, rs.getD (k % M * 16384 + a % 16384 % 16384).toNat 0 = v := ⟨_, rfl⟩
    have HV : Hid (readOf rs M zs a = v) := by
      show _ = _
      rw [readOf, hp, ← hv, hk, Int.emod_emod_of_dvd a (Int.dvd_refl 16384)]
    have HK := Lib.hid hk
    have HW := Lib.hid hv
    have HD : ∀ n : Nat, Hid (BusAt (w.drewN n) b g zs) := fun _ => h
    have HDr : ∀ n : Nat, Hid (RomAt (w.drewN n) g rs) := fun _ => hr
    clear h hr hM hp hk hv
    go_enter Try.func18, Try.ntmps18
    go_wp2_with (go_at_call 27; refine (place_any b g zs a h0 h1 _ H.out).mono ?_; rw [HP.out]; rintro e w' ⟨rfl, rfl⟩)
    go_quiet ((first
      | (go_at_call 28; exact Calls.quiet_of_same (bank_quiet b g zs a h0 hlt _ (HD _).out k HK.out))
      | (go_at_call 24; exact Calls.quiet_of_same (at_quiet g rs M HM.out _ (HDr _).out k (a % 16384) v HW.out))))
    go_wp2
    go_ret
    exact ⟨by rw [HV.out]; rfl, _, rfl⟩

theorem placeSet_length (zs : List Int) (a v : Int) : (placeSet zs a v).length = zs.length := by
  unfold placeSet; split <;> simp
theorem placeSet_oct {zs : List Int} (a : Int) {v : Int} (h : Oct zs) (h0 : 0 ≤ v) (h1 : v ≤ 255) : Oct (placeSet zs a v) := by
  unfold placeSet; split
  · exact h.set _ h0 h1
  · exact h
theorem writeOf_length (zs : List Int) (a v : Int) : (writeOf zs a v).length = zs.length := by
  unfold writeOf; split <;> simp [placeSet_length]
theorem writeOf_oct {zs : List Int} (a : Int) {v : Int} (h : Oct zs) (h0 : 0 ≤ v) (h1 : v ≤ 255) : Oct (writeOf zs a v) := by
  unfold writeOf; split
  · exact (placeSet_oct a h h0 h1).set _ h0 h1
  · exact placeSet_oct a h h0 h1
theorem BusAt.put {w : World} {b g : Nat} {zs : List Int} (h : BusAt w b g zs) (i : Nat) {v : Int} (h0 : 0 ≤ v) (h1 : v ≤ 255) : BusAt (w.setCell ⟨b, 1 + i, none⟩ (.int .u8 v)) b g (zs.set i v) := by
  refine ⟨?_, by rw [List.length_set]; exact h.2.1, h.2.2.set i h0 h1⟩
  have := h.1.put (1 + i) (.int .u8 v)
  rwa [Nat.add_comm 1 i, List.set_cons_succ, show (u8s zs).set i (.int .u8 v) = u8s (zs.set i v) by simp [u8s, List.map_set], Nat.add_comm i 1] at this
theorem grown_self (w : World) (g : Nat) : w.grownBy w (some g) := ⟨rfl, rfl, rfl, Nat.le_refl _, fun _ _ _ => rfl⟩
theorem grown_put {a w : World} {g : Nat} (h : a.grownBy w (some g)) (o : Nat) (u : Value) : a.grownBy (w.setCell ⟨g, o, none⟩ u) (some g) :=
  ⟨h.os, h.tape, h.output, by simpa [World.setCell] using h.size, fun i hi hne => (Below.heap_setCell w ⟨g, o, none⟩ u i (fun e => hne (by rw [e]))).trans (h.block i hi hne)⟩

set_option maxRecDepth 100000 in
set_option maxHeartbeats 1600000 in
theorem write_any (b g : Nat) (zs : List Int) (a v : Int) (h0 : 0 ≤ a) (h1 : a ≤ 65535) (v0 : 0 ≤ v) (v1 : v ≤ 255) (w : World) (h : BusAt w b g zs) :
    Calls Try.prog 20 #[.pointer (some ⟨b, 0, none⟩), .int .u16 a, .int .u8 v] w fun e w' => e = .returned (.tuple #[]) ∧ BusAt w' b g (writeOf zs a v) ∧ w.grownBy w' (some b) := by
  have H := Lib.hid h
  cases hp : placeOf zs a with
  | some i =>
    have HP : Hid (placeV zs a b = some ⟨b, 1 + i, none⟩) := by show _ = _; rw [placeV, hp]; rfl
    have HS : Hid (placeSet zs a v = zs.set i v) := by show _ = _; rw [placeSet, hp]
    have hi := placeOf_lt hp
    have hc := h.byte i (by omega)
    have hf := h.free (1 + i)
    have B1 : Hid (BusAt (w.setCell ⟨b, 1 + i, none⟩ (.int .u8 v)) b g (zs.set i v)) := h.put i v0 v1
    by_cases ht : 65532 ≤ a
    · have hc2 := B1.out.byte (40960 + (a - 65532).toNat) (by omega)
      have hf2 := B1.out.free (40961 + (a - 65532).toNat)
      rw [show 1 + (40960 + (a - 65532).toNat) = 40961 + (a - 65532).toNat by omega] at hc2
      have B2 : Hid (BusAt ((w.setCell ⟨b, 1 + i, none⟩ (.int .u8 v)).setCell ⟨b, 40961 + (a - 65532).toNat, none⟩ (.int .u8 v)) b g (writeOf zs a v)) := by
        have := B1.out.put (40960 + (a - 65532).toNat) v0 v1
        rw [show 1 + (40960 + (a - 65532).toNat) = 40961 + (a - 65532).toNat by omega] at this
        rw [writeOf, if_pos ht, HS.out]
        exact this
      generalize (zs.set i v).getD (40960 + (a - 65532).toNat) 0 = u2 at hc2
      generalize zs.getD i 0 = u at hc
      clear h hp
      go_enter Try.func20, Try.ntmps20
      go_wp2_with (go_at_call 27; refine (place_any b g zs a h0 h1 _ H.out).mono ?_; rw [HP.out]; rintro e w' ⟨rfl, rfl⟩)
      go_end0
      exact ⟨rfl, B2.out, grown_put (grown_put (grown_self _ _) _ _) _ _⟩
    · have HW : Hid (writeOf zs a v = zs.set i v) := by show _ = _; rw [writeOf, if_neg ht, HS.out]
      generalize zs.getD i 0 = u at hc
      clear h hp
      go_enter Try.func20, Try.ntmps20
      go_wp2_with (go_at_call 27; refine (place_any b g zs a h0 h1 _ H.out).mono ?_; rw [HP.out]; rintro e w' ⟨rfl, rfl⟩)
      go_end0
      exact ⟨rfl, by rw [HW.out]; exact B1.out, grown_put (grown_self _ _) _ _⟩
  | none =>
    have HP : Hid (placeV zs a b = none) := by show _ = _; rw [placeV, hp]; rfl
    have hlt := placeOf_none hp
    have HW : Hid (writeOf zs a v = zs) := by show _ = _; rw [writeOf, if_neg (by omega), placeSet, hp]
    clear h hp
    go_enter Try.func20, Try.ntmps20
    go_wp2_with (go_at_call 27; refine (place_any b g zs a h0 h1 _ H.out).mono ?_; rw [HP.out]; rintro e w' ⟨rfl, rfl⟩)
    go_end0
    exact ⟨rfl, by rw [HW.out]; exact H.out, grown_self _ _⟩

end Go.Proofs.Ytlnoomganphbeaa
