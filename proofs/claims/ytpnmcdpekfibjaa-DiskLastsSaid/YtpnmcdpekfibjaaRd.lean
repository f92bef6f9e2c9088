/-
  Own work. The document's disk in memory, and as a record of lists.
-/
import Derived.Test.YtpnmcdpekfibjaaOn
namespace Go.Proofs.Ytpnmcdpekfibjaa
open Go.RowKit
set_option linter.unusedVariables false
set_option linter.unusedSimpArgs false

structure RM where
  last : List ByteArray
  wait : List ByteArray
  off : Bool
  arms : Int
  part : Int
  way : Int
  coming : ByteArray
  wrote : Nat
  powers : Nat
/-- What a disk of n sectors keeps at all times. -/
structure RM.Ok (m : RM) (n : Nat) : Prop where
  nl : m.last.length = n
  nw : m.wait.length = n
  n1 : 32 ≤ n
  n2 : n ≤ 4096
  ls : ∀ s ∈ m.last, s.size = 512
  ws : ∀ s ∈ m.wait, s.size = 0 ∨ s.size = 512
  pt : 0 ≤ m.part ∧ m.part ≤ 512
  ar : -1 ≤ m.arms ∧ m.arms ≤ 9223372036854775807
  wy : -1 ≤ m.way ∧ m.way < n
  cm : m.coming.size ≤ 512
  wr : m.wrote ≤ 1073741824
  pw : m.powers ≤ 1073741824
def rdC (gl gw n cl cw : Nat) (m : RM) : Array Value :=
  #[.slice (some ⟨gl, 0, none⟩) n cl, .slice (some ⟨gw, 0, none⟩) n cw, .bool m.off, .int .i64 m.arms, .int .i64 m.part, .int .i64 m.way, .string m.coming, .int .i64 (m.wrote : Int), .int .i64 (m.powers : Int)]
/-- The disk at block g, its rows at gl and gw. -/
structure RefD (w : World) (g gl gw n cl cw : Nat) (m : RM) : Prop where
  blk : w.heap[g]? = some (.cells (rdC gl gw n cl cw m) 61 (0, 0))
  rl : RowS w gl cl m.last
  rw : RowS w gw cw m.wait
  d1 : g ≠ gl
  d2 : g ≠ gw
  d3 : gl ≠ gw
section
variable {S : Nat → Prop} {w w' : World} {g gl gw n cl cw : Nat} {m : RM}
def RefB (g gl gw : Nat) (k : Nat) : Prop := k = g ∨ k = gl ∨ k = gw
theorem RefD.only (h : RefD w g gl gw n cl cw m) (ho : Only S w w') (hS : ∀ k, RefB g gl gw k → ¬ S k) : RefD w' g gl gw n cl cw m :=
  ⟨(ho.block g (Array.getElem?_eq_some_iff.1 h.blk).1 (hS g (.inl rfl))).trans h.blk, h.rl.only ho (hS gl (.inr (.inl rfl))), h.rw.only ho (hS gw (.inr (.inr rfl))), h.d1, h.d2, h.d3⟩
theorem RefD.drew (h : RefD w g gl gw n cl cw m) : RefD w.drew g gl gw n cl cw m := ⟨h.blk, h.rl, h.rw, h.d1, h.d2, h.d3⟩
theorem RefD.cell (h : RefD w g gl gw n cl cw m) (k : Nat) : w.cell? ⟨g, k, none⟩ = (rdC gl gw n cl cw m)[k]? := cell_of_row w g k _ _ (0, 0) h.blk
theorem RefD.frozen (h : RefD w g gl gw n cl cw m) (k : Nat) : w.frozen? ⟨g, k, none⟩ = false := frozen_of_row w g k _ _ h.blk
theorem RefD.put (h : RefD w g gl gw n cl cw m) (k : Nat) (v : Value) {m' : RM} (e : (rdC gl gw n cl cw m).setIfInBounds k v = rdC gl gw n cl cw m') (h1 : m'.last = m.last) (h2 : m'.wait = m.wait) : RefD (w.setCell ⟨g, k, none⟩ v) g gl gw n cl cw m' := by
  refine ⟨?_, ?_, ?_, h.d1, h.d2, h.d3⟩
  · rw [heap_setCell_same w g k _ _ v h.blk, e]
  · rw [h1]; exact h.rl.far (fun e => h.d1 e.symm) _
  · rw [h2]; exact h.rw.far (fun e => h.d2 e.symm) _
theorem RefD.putL (h : RefD w g gl gw n cl cw m) (i : Nat) (s : ByteArray) : RefD (w.setCell ⟨gl, i, none⟩ (.string s)) g gl gw n cl cw { m with last := m.last.set i s } :=
  ⟨(heap_setCell_other w ⟨gl, i, none⟩ g _ h.d1).trans h.blk, h.rl.set_ s, h.rw.far (fun e => h.d3 e.symm) _, h.d1, h.d2, h.d3⟩
theorem RefD.putW (h : RefD w g gl gw n cl cw m) (i : Nat) (s : ByteArray) : RefD (w.setCell ⟨gw, i, none⟩ (.string s)) g gl gw n cl cw { m with wait := m.wait.set i s } :=
  ⟨(heap_setCell_other w ⟨gw, i, none⟩ g _ h.d2).trans h.blk, h.rl.far h.d3 _, h.rw.set_ s, h.d1, h.d2, h.d3⟩
end

/-- Does the next operation go? -/
def RM.goB (m : RM) : Bool := decide (m.arms ≠ 0)
def RM.goM (m : RM) : RM := if m.arms < 0 then m else if 0 < m.arms then { m with arms := m.arms - 1 } else { m with off := true }
def RetD (w : World) (g gl gw n cl cw : Nat) (v : Value) (m : RM) (e : Ending) (w' : World) : Prop := e = .returned v ∧ RefD w' g gl gw n cl cw m ∧ Only (RefB g gl gw) w w'

set_option maxRecDepth 100000 in
theorem rgoes_any (w : World) (g gl gw n cl cw : Nat) (m : RM) (h : RefD w g gl gw n cl cw m) (ok : m.Ok n) :
    Calls Try.prog 47 #[.pointer (some ⟨g, 0, none⟩)] w (RetD w g gl gw n cl cw (.bool m.goB) m.goM) := by
  have c3 : w.cell? ⟨g, 3, none⟩ = some (.int .i64 m.arms) := h.cell 3
  have f2 := h.frozen 2
  have f3 := h.frozen 3
  have c2 : w.cell? ⟨g, 2, none⟩ = some (.bool m.off) := h.cell 2
  have H := Lib.hid h
  obtain ⟨a1, a2⟩ := ok.ar
  obtain ⟨a, ha⟩ : ∃ a, m.arms = a := ⟨_, rfl⟩
  rw [ha] at c3 a1 a2
  have HA := Lib.hid ha
  clear h ok ha
  by_cases h1 : a < 0
  · have e1 : m.goB = true := by unfold RM.goB; rw [HA.out, decide_eq_true_iff]; omega
    have e2 : m.goM = m := by unfold RM.goM; rw [HA.out, if_pos h1]
    rw [e1, e2]
    go_enter Try.func47, Try.ntmps47
    go_wp2_with fail
    go_ret
    exact ⟨rfl, H.out, Only.refl _ _⟩
  · by_cases h2 : 0 < a
    · have e1 : m.goB = true := by unfold RM.goB; rw [HA.out, decide_eq_true_iff]; omega
      have e2 : m.goM = { m with arms := a - 1 } := by unfold RM.goM; rw [HA.out, if_neg h1, if_pos h2]
      rw [e1, e2]
      go_enter Try.func47, Try.ntmps47
      go_wp2_with fail
      go_ret
      exact ⟨rfl, H.out.put 3 (.int .i64 (a - 1)) rfl rfl rfl, (Only.refl _ _).setCell (.inl rfl) _⟩
    · have h0 : a = 0 := by omega
      subst h0
      have e1 : m.goB = false := by unfold RM.goB; rw [HA.out]; rfl
      have e2 : m.goM = { m with off := true } := by unfold RM.goM; rw [HA.out, if_neg (by omega), if_neg (by omega)]
      rw [e1, e2]
      go_enter Try.func47, Try.ntmps47
      go_wp2_with fail
      go_ret
      exact ⟨rfl, H.out.put 2 (.bool true) rfl rfl rfl, (Only.refl _ _).setCell (.inl rfl) _⟩
theorem RM.Ok.go {m : RM} {n : Nat} (h : m.Ok n) : m.goM.Ok n := by
  unfold RM.goM
  split
  · exact h
  · split
    · exact ⟨h.nl, h.nw, h.n1, h.n2, h.ls, h.ws, h.pt, ⟨by show -1 ≤ m.arms - 1; omega, by have := h.ar; show m.arms - 1 ≤ _; omega⟩, h.wy, h.cm, h.wr, h.pw⟩
    · exact ⟨h.nl, h.nw, h.n1, h.n2, h.ls, h.ws, h.pt, h.ar, h.wy, h.cm, h.wr, h.pw⟩
end Go.Proofs.Ytpnmcdpekfibjaa
