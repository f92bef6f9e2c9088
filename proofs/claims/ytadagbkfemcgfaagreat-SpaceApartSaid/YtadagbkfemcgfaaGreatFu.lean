/-
  Own work. A sector that begins with some bytes: cofferlaw5's Full.
-/
import Derived.Test.YtadagbkfemcgfaaGreatG1
namespace Go.Proofs.YtadagbkfemcgfaaGreat
open Go.RowKit
set_option linter.unusedVariables false
set_option linter.unusedSimpArgs false

/-- copy(x, b) into a row of the call's own, whether it has room for all of b or not. -/
theorem wp_copyT {P : Program} {w : World} {ops : Array Oper} {rest : List Oper} {o : Oper} {a : Act} {Q : Exit → Act → World → Prop} (hgd : o.guard = none) (d s : Operand)
    (ho : o.op = .call { callee := .builtin .copy, args := #[d, s], argTypes := #[65, 65] }) (ht : P.underlying 65 = some (.slice 5)) (hsz : (P.info? 5).map (·.size) = some 1)
    (base g N : Nat) (L m : List UInt8) (hd : a.eval d = .slice (some ⟨g, 0, none⟩) N N) (hown : OwnB w base (.slice (some ⟨g, 0, none⟩) N N) L)
    (B : Nat) (A : Option Addr) (n c : Nat) (hs : a.eval s = .slice A n c) (hm : HasB w B A n m) (hN : N ≤ maxLen)
    (h : ∀ w', OwnB w' base (.slice (some ⟨g, 0, none⟩) N N) (m.take N ++ L.drop (m.take N).length) → Below base w w' → wpList P ops Q rest (a.put o.dst (goInt (cellsB (m.take N)).length)) w') : wpList P ops Q (o :: rest) a w := by
  obtain ⟨hg, hbg, hNl⟩ := hown.block
  obtain ⟨hnl, hcell⟩ := hm
  have hlen : (m.take N).length = min n N := by rw [List.length_take, hnl, Nat.min_comm]
  refine wpList_copy_splice hgd d s _ _ ho 5 ht hsz _ _ _ _ _ _ hd hs g 0 (cellsB L) 5 hg (cellsB (m.take N)) (by rw [cellsB_length, hlen]) ?_ (by rw [cellsB_length, cellsB_length, hlen]; omega) (cellsB_one _) base w (Below.refl _ _) hbg ?_
  · intro hpos
    obtain ⟨g', o', e, _, hc⟩ := hcell (by rw [cellsB_length, hlen] at hpos; omega)
    refine ⟨rfl, ⟨g', o', none⟩, e, fun j v hv => ?_⟩
    obtain ⟨b, hb, rfl⟩ := cellsB_at hv
    rw [Addr.add_lit]
    refine hc j b ?_
    rw [List.getElem?_take] at hb
    split at hb
    · exact hb
    · cases hb
  · intro w' hh hb
    refine h w' (OwnB.of_block ?_ hbg (by rw [List.length_append, List.length_drop, hlen]; omega) hN) hb
    have := hh.out
    have e : splice (cellsB L) 0 (cellsB (m.take N)) = cellsB (m.take N ++ L.drop (m.take N).length) := by
      simp [splice, cellsB, List.map_drop]
    rw [e] at this
    exact this

/-- A sector that begins with l. -/
def fullL (l : List UInt8) : List UInt8 := l.take 512 ++ (List.replicate 512 (0 : UInt8)).drop (l.take 512).length
theorem fullL_len (l : List UInt8) : (fullL l).length = 512 := by
  unfold fullL
  rw [List.length_append, List.length_drop, List.length_replicate, List.length_take]
  omega

end Go.Proofs.YtadagbkfemcgfaaGreat
