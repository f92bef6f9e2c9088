/-
  Own work. A part of a row loaded and stored whole; a copy that turns one row alone; bytes that lie in another block.
-/
import Derived.Test.YtadagbkfemcgfaaG1
import Derived.Test.YtadagbkfemcgfaaDa
import Derived.OrdersHeld
import Derived.Deep.RegionHeld
import Derived.Deep.RegionLaw
namespace Go.Proofs.Ytadagbkfemcgfaa
open Go.RowKit
set_option linter.unusedVariables false

section
variable {P : Program}
/-- What a load of a part yields in every world that meets S. -/
theorem yieldsIf_load {ops : Array Oper} {o : Oper} {a : Act} {S : World → Prop} (hgd : o.guard = none) (ty : TypeId) (x : Operand) (ho : o.op = .load ty x) (ad : Addr) (hx : a.eval x = .pointer (some ad)) (v : Value)
    (hl : ∀ w, S w → (loadVar ty ad).run P w = .ok v w) : YieldsIf P ops S o v a := by
  refine Or.inl ⟨by simp [Region.wanted, hgd], fun w hw => ?_⟩
  unfold execOp
  simp only [ho, hx, Instr.loadAt, Instr.sureAddr, Sem.run_bind, Sem.run_pure, Result.andThen_ok, hl w hw]

/-- copy, as one step of a region: one row alone turns. -/
theorem step_copy_row {ops : Array Oper} {o : Oper} {a : Act} {w : World} {K : Act → World → Prop} {Q : Exit → Act → World → Prop} {E : Prop} (hgd : o.guard = none) (d s : Operand) (dT sT : TypeId)
    (ho : o.op = .call { callee := .builtin .copy, args := #[d, s], argTypes := #[dT, sT] }) (elem : TypeId) (hu : P.underlying dT = some (.slice elem)) (hsz : (P.info? elem).map (·.size) = some 1)
    (dp sp : Option Addr) (dLen dCap sLen sCap : Nat) (hd : a.eval d = .slice dp dLen dCap) (hs : a.eval s = .slice sp sLen sCap)
    (g off : Nat) (cur : List Value) (t : TypeId) (hg : w.heap[g]? = some (.cells cur.toArray t (0, 0))) (cs : List Value) (hn : cs.length = Nat.min sLen dLen)
    (hpos : 0 < cs.length → dp = some ⟨g, off, none⟩ ∧ ∃ ad, sp = some ad ∧ ∀ j v, cs[j]? = some v → w.cell? (ad.add j) = some v)
    (hfit : off + cs.length ≤ cur.length) (h1 : ∀ v ∈ cs, v.oneCell' = true)
    (h : ∀ w', RowKit.Hid (w'.heap[g]? = some (.cells (splice cur off cs).toArray t (0, 0))) → w.grownBy w' (some g) → K (a.put o.dst (goInt cs.length)) w') :
    if Region.wanted o (yielded ops a.tmps) = true then Oper.wp P o a w K Q else E := by
  have hw : Region.wanted o (yielded ops a.tmps) = true := by simp [Region.wanted, hgd]
  rw [if_pos hw]
  by_cases h0 : cs.length = 0
  · obtain rfl : cs = [] := List.eq_nil_of_length_eq_zero h0
    have hrun := run_copy_none (P := P) w dT sT o.type elem dp sp dLen dCap sLen sCap hu hsz (by simpa using hn.symm)
    unfold Oper.wp
    simp [execOp, ho, resolve, invoke, builtin, hd, hs, hrun, Result.andThen]
    exact h w (show _ = _ by simpa [splice] using hg) (World.grownBy.refl _ _)
  · obtain ⟨rfl, ad, rfl, hsrc⟩ := hpos (by omega)
    have hrun := run_copy_row (P := P) w dT sT o.type elem g off dLen dCap ad sLen sCap cur.toArray t cs hu hsz hg hn hsrc (by simpa using hfit) h1
    unfold Oper.wp
    simp [execOp, ho, resolve, invoke, builtin, hd, hs, hrun, Result.andThen]
    exact h _ (show _ = _ by simpa [splice] using setRow_heap w g _ _ t _ hg) ⟨rfl, rfl, rfl, by simp [World.setRow], fun k _ hk => setRow_other w g k _ (fun e => hk (by rw [e]))⟩
end

/-- A slice of bytes that lies elsewhere than in block g. -/
def Src (w : World) (g : Nat) (A : Option Addr) (n : Nat) (l : List UInt8) : Prop :=
  n = l.length ∧ (0 < n → ∃ k o, A = some ⟨k, o, none⟩ ∧ k ≠ g ∧ k < w.heap.size ∧ ∀ i b, l[i]? = some b → w.cell? ⟨k, o + i, none⟩ = some (.int .u8 (b.toNat : Int)))
theorem Src.of_below {w : World} {g B n : Nat} {A : Option Addr} {l : List UInt8} (h : HasB w B A n l) (hB : B ≤ g) (hg : g < w.heap.size) : Src w g A n l :=
  ⟨h.1, fun hn => by
    obtain ⟨k, o, e, hk, hc⟩ := h.2 hn
    exact ⟨k, o, e, by omega, by omega, hc⟩⟩
theorem Src.grown {w w' : World} {g n : Nat} {A : Option Addr} {l : List UInt8} (h : Src w g A n l) (hb : w.grownBy w' (some g)) : Src w' g A n l :=
  ⟨h.1, fun hn => by
    obtain ⟨k, o, e, hk, hlt, hc⟩ := h.2 hn
    refine ⟨k, o, e, hk, Nat.lt_of_lt_of_le hlt hb.size, fun i b hi => ?_⟩
    exact hb.cell (hc i b hi) (by simpa using hk)⟩
theorem Src.below {w w' : World} {g n : Nat} {A : Option Addr} {l : List UInt8} (h : Src w g A n l) (hb : Below w.heap.size w w') : Src w' g A n l :=
  ⟨h.1, fun hn => by
    obtain ⟨k, o, e, hk, hlt, hc⟩ := h.2 hn
    exact ⟨k, o, e, hk, Nat.lt_of_lt_of_le hlt hb.size, fun i b hi => (hb.cell (p := ⟨k, o + i, none⟩) hlt).trans (hc i b hi)⟩⟩
/-- The rest behind m bytes, whatever the address where nothing is left. -/
theorem Src.cut {w : World} {g n m : Nat} {A A' : Option Addr} {l : List UInt8} (h : Src w g A n l) (hm : m ≤ n) (hA : m < n → A' = A.map fun a => a.add m) : Src w g A' (n - m) (l.drop m) :=
  ⟨by rw [List.length_drop, h.1], fun hn => by
    obtain ⟨k, o, e, hk, hlt, hc⟩ := h.2 (by omega)
    refine ⟨k, o + m, by rw [hA (by omega), e]; simp [Addr.add_lit], hk, hlt, fun i b hi => ?_⟩
    rw [Nat.add_assoc]
    exact hc (m + i) b (by rw [← hi, List.getElem?_drop])⟩
end Go.Proofs.Ytadagbkfemcgfaa
