/-
  A picture chip's port as plain data: what each act makes of it. No program in it.
-/
import Derived.Test.YtbjghlcdbmooaaaQuietTail
import Derived.Test.YtbjghlcdbmooaaaCells
import Derived.Test.YtbjghlcdbmooaaaCpuOwn
import Derived.Test.YtbjghlcdbmooaaaOnes
namespace Go.Proofs.Ytbjghlcdbmooaaa
open Go.RowKit

abbrev Blks := List (Nat × TypeId × List Value)
/-- bytes in memory -/
def n8 (l : List Nat) : List Value := l.map fun b : Nat => Value.int .u8 (b : Int)
@[simp] theorem n8_length (l : List Nat) : (n8 l).length = l.length := by simp [n8]
theorem n8_append (a b : List Nat) : n8 (a ++ b) = n8 a ++ n8 b := by simp [n8]
theorem n8_one (l : List Nat) : ∀ u ∈ n8 l, u.oneCell' = true := by
  intro u hu; simp only [n8, List.mem_map] at hu; obtain ⟨b, _, rfl⟩ := hu; rfl
theorem n8_get (l : List Nat) (i : Nat) (hi : i < l.length) : (n8 l)[i]? = some (.int .u8 ((l.getD i 0 : Nat) : Int)) := by
  simp [n8, List.getD_eq_getElem?_getD, hi]
theorem n8_set (l : List Nat) (i v : Nat) : (n8 l).set i (.int .u8 (v : Int)) = n8 (l.set i v) := by simp [n8, List.map_set]
/-- each below m -/
def Lt (m : Nat) (l : List Nat) : Prop := ∀ x ∈ l, x < m
theorem Lt.getD {m : Nat} {l : List Nat} (h : Lt m l) (hm : 0 < m) (i : Nat) : l.getD i 0 < m := by
  rw [List.getD_eq_getElem?_getD]
  rcases Nat.lt_or_ge i l.length with h1 | h1
  · rw [List.getElem?_eq_getElem h1]; exact h _ (List.getElem_mem _)
  · rw [List.getElem?_eq_none h1]; exact hm
theorem Lt.set {m : Nat} {l : List Nat} (h : Lt m l) (i : Nat) {v : Nat} (hv : v < m) : Lt m (l.set i v) := by
  intro x hx
  rcases List.mem_or_eq_of_mem_set hx with h1 | h1
  · exact h x h1
  · rw [h1]; exact hv
theorem Lt.append {m : Nat} {a b : List Nat} (h : Lt m a) (h' : Lt m b) : Lt m (a ++ b) := by
  intro x hx
  rcases List.mem_append.1 hx with h1 | h1
  · exact h x h1
  · exact h' x h1
theorem Lt.take {m : Nat} {a : List Nat} (h : Lt m a) (n : Nat) : Lt m (a.take n) := fun x hx => h x (List.mem_of_mem_take hx)
theorem Lt.drop {m : Nat} {a : List Nat} (h : Lt m a) (n : Nat) : Lt m (a.drop n) := fun x hx => h x (List.mem_of_mem_drop hx)
theorem Lt.more {m n : Nat} {a : List Nat} (h : Lt m a) (hn : m ≤ n) : Lt n a := fun x hx => Nat.lt_of_lt_of_le (h x hx) hn
theorem Lt.zeros {m : Nat} (hm : 0 < m) (n : Nat) : Lt m (List.replicate n 0) := by
  intro x hx; rw [List.eq_of_mem_replicate hx]; exact hm

structure Pt where
  vr : List Nat
  cr : List Nat
  rg : List Nat
  ad : Nat
  co : Nat
  lo : Nat
  se : Bool
  bu : Nat
namespace Pt
structure Ok (s : Pt) : Prop where
  v : s.vr.length = 16384
  c : s.cr.length = 32
  g : s.rg.length = 11
  v8 : Lt 256 s.vr
  c6 : Lt 64 s.cr
  g8 : Lt 256 s.rg
  ad : s.ad < 16384
  co : s.co < 4
  lo : s.lo < 256
  bu : s.bu < 256
abbrev setVr (s : Pt) (i v : Nat) : Pt := { s with vr := s.vr.set i v }
abbrev setCr (s : Pt) (i v : Nat) : Pt := { s with cr := s.cr.set i v }
abbrev setRg (s : Pt) (i v : Nat) : Pt := { s with rg := s.rg.set i v }
abbrev setAd (s : Pt) (v : Nat) : Pt := { s with ad := v }
abbrev setCo (s : Pt) (v : Nat) : Pt := { s with co := v }
abbrev setLo (s : Pt) (v : Nat) : Pt := { s with lo := v }
abbrev setSe (s : Pt) (v : Bool) : Pt := { s with se := v }
abbrev setBu (s : Pt) (v : Nat) : Pt := { s with bu := v }
def nil : Pt := ⟨List.replicate 16384 0, List.replicate 32 0, List.replicate 11 0, 0, 0, 0, false, 0⟩
def on (s : Pt) : Pt := s.setAd ((s.ad + 1) % 16384)
def ahead (s : Pt) : Pt := (s.setBu (s.vr.getD s.ad 0)).on
/-- a Control's second byte: where and what -/
def second (s : Pt) (v : Nat) : Pt := ((s.setSe false).setCo (v / 64)).setAd (v % 64 * 256 + s.lo)
def first (s : Pt) (v : Nat) : Pt := ((s.setLo v).setAd (s.ad / 256 * 256 + v)).setSe true
def control (s : Pt) (v : Nat) : Pt :=
  if s.se = false then s.first v
  else if v / 64 = 0 then (s.second v).ahead
  else if v / 64 = 2 ∧ v % 16 < 11 then (s.second v).setRg (v % 16) s.lo
  else s.second v
def put (s : Pt) (v : Nat) : Pt := if s.co = 3 then s.setCr (s.ad % 32) (v % 64) else s.setVr s.ad v
def write (s : Pt) (v : Nat) : Pt := (((s.setSe false).put v).setBu v).on
def read (s : Pt) : Pt := (s.setSe false).ahead
def dump (s : Pt) : List Nat := s.vr ++ (s.cr ++ (s.rg ++ [s.ad % 256, s.ad / 256, s.co, s.lo, cond s.se 1 0, s.bu]))
/-- bytes that can be a port's -/
def Right (d : List Nat) : Prop := d.length = 16433 ∧ Lt 64 ((d.drop 16384).take 32) ∧ d.getD 16428 0 < 64 ∧ d.getD 16429 0 < 4 ∧ d.getD 16431 0 < 2
def load (d : List Nat) : Pt := ⟨d.take 16384, (d.drop 16384).take 32, (d.drop 16416).take 11, d.getD 16427 0 + 256 * d.getD 16428 0, d.getD 16429 0, d.getD 16430 0, decide (d.getD 16431 0 = 1), d.getD 16432 0⟩

section
variable {s : Pt}
theorem Ok.setVr (h : s.Ok) (i : Nat) {v : Nat} (hv : v < 256) : (s.setVr i v).Ok := ⟨by simp [h.v], h.c, h.g, h.v8.set i hv, h.c6, h.g8, h.ad, h.co, h.lo, h.bu⟩
theorem Ok.setCr (h : s.Ok) (i : Nat) {v : Nat} (hv : v < 64) : (s.setCr i v).Ok := ⟨h.v, by simp [h.c], h.g, h.v8, h.c6.set i hv, h.g8, h.ad, h.co, h.lo, h.bu⟩
theorem Ok.setRg (h : s.Ok) (i : Nat) {v : Nat} (hv : v < 256) : (s.setRg i v).Ok := ⟨h.v, h.c, by simp [h.g], h.v8, h.c6, h.g8.set i hv, h.ad, h.co, h.lo, h.bu⟩
theorem Ok.setAd (h : s.Ok) {v : Nat} (hv : v < 16384) : (s.setAd v).Ok := ⟨h.v, h.c, h.g, h.v8, h.c6, h.g8, hv, h.co, h.lo, h.bu⟩
theorem Ok.setCo (h : s.Ok) {v : Nat} (hv : v < 4) : (s.setCo v).Ok := ⟨h.v, h.c, h.g, h.v8, h.c6, h.g8, h.ad, hv, h.lo, h.bu⟩
theorem Ok.setLo (h : s.Ok) {v : Nat} (hv : v < 256) : (s.setLo v).Ok := ⟨h.v, h.c, h.g, h.v8, h.c6, h.g8, h.ad, h.co, hv, h.bu⟩
theorem Ok.setSe (h : s.Ok) (v : Bool) : (s.setSe v).Ok := ⟨h.v, h.c, h.g, h.v8, h.c6, h.g8, h.ad, h.co, h.lo, h.bu⟩
theorem Ok.setBu (h : s.Ok) {v : Nat} (hv : v < 256) : (s.setBu v).Ok := ⟨h.v, h.c, h.g, h.v8, h.c6, h.g8, h.ad, h.co, h.lo, hv⟩
theorem Ok.on (h : s.Ok) : s.on.Ok := h.setAd (Nat.mod_lt _ (by omega))
theorem Ok.ahead (h : s.Ok) : s.ahead.Ok := (h.setBu (h.v8.getD (by omega) _)).on
theorem Ok.second (h : s.Ok) {v : Nat} (hv : v < 256) : (s.second v).Ok := ((h.setSe false).setCo (by omega)).setAd (by have := h.lo; omega)
theorem Ok.first (h : s.Ok) {v : Nat} (hv : v < 256) : (s.first v).Ok := ((h.setLo hv).setAd (by have := h.ad; omega)).setSe true
theorem Ok.control (h : s.Ok) {v : Nat} (hv : v < 256) : (s.control v).Ok := by
  unfold Pt.control
  split
  · exact h.first hv
  · split
    · exact (h.second hv).ahead
    · split
      · exact (h.second hv).setRg _ h.lo
      · exact h.second hv
theorem Ok.put (h : s.Ok) {v : Nat} (hv : v < 256) : (s.put v).Ok := by
  unfold Pt.put
  split
  · exact h.setCr _ (Nat.mod_lt _ (by omega))
  · exact h.setVr _ hv
theorem Ok.write (h : s.Ok) {v : Nat} (hv : v < 256) : (s.write v).Ok := (((h.setSe false).put hv).setBu hv).on
theorem Ok.read (h : s.Ok) : s.read.Ok := (h.setSe false).ahead
theorem nil_ok : nil.Ok := ⟨List.length_replicate .., List.length_replicate .., List.length_replicate .., Lt.zeros (by omega) _, Lt.zeros (by omega) _, Lt.zeros (by omega) _, by decide, by decide, by decide, by decide⟩
theorem dump_length (h : s.Ok) : s.dump.length = 16433 := by simp [dump, h.v, h.c, h.g]
theorem dump_lt (h : s.Ok) : Lt 256 s.dump := by
  refine h.v8.append ((h.c6.more (by omega)).append (h.g8.append ?_))
  have := h.ad
  have := h.co
  have := h.lo
  have := h.bu
  have : cond s.se 1 0 < 256 := by cases s.se <;> decide
  intro x hx
  simp only [List.mem_cons, List.not_mem_nil, or_false] at hx
  rcases hx with rfl | rfl | rfl | rfl | rfl | rfl <;> omega
theorem load_ok {d : List Nat} (h : Right d) (h8 : Lt 256 d) : (load d).Ok := by
  obtain ⟨h1, h2, h3, h4, h5⟩ := h
  exact ⟨by simp [load, h1], by simp [load, h1], by simp [load, h1], h8.take _, h2, (h8.drop _).take _, by show d.getD 16427 0 + 256 * d.getD 16428 0 < 16384; have := h8.getD (by omega) 16427; omega, h4, h8.getD (by omega) _, h8.getD (by omega) _⟩
end
end Pt

end Go.Proofs.Ytbjghlcdbmooaaa
