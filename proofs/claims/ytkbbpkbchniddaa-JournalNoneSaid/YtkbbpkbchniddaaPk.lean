/-
  Own work. The program's disk keeps its contracts.
-/
import Derived.Test.YtkbbpkbchniddaaPn
import Derived.Test.YtkbbpkbchniddaaPp
namespace Go.Proofs.Ytkbbpkbchniddaa
open Go.RowKit Go.Maps
set_option linter.unusedVariables false
set_option linter.unusedSimpArgs false

theorem retV_below {w : World} {v : Value} {f : FuncId} {args : Array Value} (h : Calls Try.prog f args w (RetV w v)) : Calls Try.prog f args w fun e w' => e = .returned v ∧ Below w.heap.size w w' :=
  h.mono fun e w' ⟨h1, h2⟩ => ⟨h1, h2 ▸ Below.refl _ _⟩
theorem pwrite_any {w : World} {g n : Nat} {S : Nat → Prop} {m : RM} (i : Int) (A : Option Addr) (q c : Nat) (l : List UInt8) (h : PD w g S n m) (ok : m.Ok n) (hw : m.wrote < 1073741824) (hi : -9223372036854775808 ≤ i ∧ i ≤ 9223372036854775807) (hB : HasN w S A q l) (hqc : q ≤ c) (hq : q ≤ 1073741824) :
    Calls Try.prog 72 #[.pointer (some ⟨g, 0, none⟩), .int .i64 i, .slice A q c] w (Left2 PD w g S n (.int .i64 (m.writeE n i (strB l))) (m.writeM n i (strB l))) := by
  obtain ⟨gd, gp, x, D, p, rfl⟩ := h
  exact pwrite i A q c l p ok hw hi hB hqc hq
theorem pflush_any {w : World} {g n : Nat} {S : Nat → Prop} {m : RM} (h : PD w g S n m) (ok : m.Ok n) :
    Calls Try.prog 71 #[.pointer (some ⟨g, 0, none⟩)] w (Left2 PD w g S n (.int .i64 m.flushE) (m.flushM n)) := by
  obtain ⟨gd, gp, x, D, p, rfl⟩ := h
  exact pflush p ok
theorem parm_any {w : World} {g n : Nat} {S : Nat → Prop} {m : RM} (a p : Int) (h : PD w g S n m) (ok : m.Ok n) (ha : -9223372036854775808 ≤ a ∧ a ≤ 9223372036854775807) (hp : -9223372036854775808 ≤ p ∧ p ≤ 9223372036854775807) :
    Calls Try.prog 20 #[.pointer (some ⟨g, 0, none⟩), .int .i64 a, .int .i64 p] w (Left2 PD w g S n (.tuple #[]) (m.armM a p)) := by
  obtain ⟨gd, gp, x, D, pd, rfl⟩ := h
  refine (parm a p pd ok ha hp).mono ?_
  rintro e w' ⟨rfl, ⟨x', d', q⟩, o⟩
  refine ⟨rfl, ⟨_, ⟨gd, gp, x', D, d', rfl⟩, fun j hj => .inl ?_⟩, o.mono (fun j _ e => .inl e)⟩
  rwa [PrB_eq q] at hj
theorem ppower_any {w : World} {g n : Nat} {S : Nat → Prop} {m : RM} (A : Option Addr) (q c : Nat) (keep : List Bool) (h : PD w g S n m) (ok : m.Ok n) (hp : m.powers < 1073741824) (hk : HasNo w S A q keep) (hqc : q ≤ c) (hq : q ≤ 1073741824) :
    Calls Try.prog 25 #[.pointer (some ⟨g, 0, none⟩), .slice A q c] w (Left2 PD w g S n (.tuple #[]) (m.powerM n keep)) := by
  obtain ⟨gd, gp, x, D, pd, rfl⟩ := h
  exact ppower A q c keep pd ok hp hk hqc hq
/-- The program's disk. -/
def theDK : DK where
  D := PD
  lt := by
    rintro w g S n m ⟨gd, gp, x, D, p, rfl⟩
    exact p.lt
  only := by
    rintro w w' g S T n m ⟨gd, gp, x, D, p, rfl⟩ ho hT
    exact ⟨gd, gp, x, D, p.only ho hT, rfl⟩
  len_q := by
    rintro w g S n m ⟨gd, gp, x, D, p, rfl⟩ ok
    exact plen p ok
  lives_q := by
    rintro w g S n m ⟨gd, gp, x, D, p, rfl⟩ ok
    exact plives p ok
  new_any := pnew
  new_no := pnew_no
  len_any := by
    rintro w g S n m ⟨gd, gp, x, D, p, rfl⟩ ok
    exact retV_below (plen p ok)
  dead_any := by
    rintro w g S n m ⟨gd, gp, x, D, p, rfl⟩ ok
    exact retV_below (pdead p ok)
  writes_any := by
    rintro w g S n m ⟨gd, gp, x, D, p, rfl⟩ ok
    exact retV_below (pwrites p ok)
  lives_any := by
    rintro w g S n m ⟨gd, gp, x, D, p, rfl⟩ ok
    exact retV_below (plives p ok)
  waiting_any := by
    rintro w g S n m ⟨gd, gp, x, D, p, rfl⟩ ok
    exact pwaiting p ok
  read_any := by
    rintro w g S n m i ⟨gd, gp, x, D, p, rfl⟩ ok hi
    exact pread i p ok hi
  write_any := pwrite_any
  flush_any := pflush_any
  arm_any := parm_any
  power_any := ppower_any
end Go.Proofs.Ytkbbpkbchniddaa
