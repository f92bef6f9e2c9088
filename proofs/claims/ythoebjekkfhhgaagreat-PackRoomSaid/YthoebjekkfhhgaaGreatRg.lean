/-
  Own work.
-/
import Derived.OrdersHeld
import Derived.Deep.RegionHeld
import Derived.RangeFuncCalls
import Derived.OwnWalkIn
import Derived.Test.YthoebjekkfhhgaaGreatRf
set_option linter.unusedVariables false
set_option linter.unusedSimpArgs false
namespace Go.Proofs.YthoebjekkfhhgaaGreat
open Go.RowKit
def calmOp (o : Oper) : Bool := match o.op with | .defer _ => false | _ => true
theorem calmOp_ne {o : Oper} (h : calmOp o = true) : ∀ c, o.op ≠ .defer c := fun c e => by unfold calmOp at h; rw [e] at h; cases h
section
variable {P : Program} {l n : Nat} {Q : Exit -> Act -> World -> Prop}
theorem wpIn_of_wp {o : Oper} {a : Act} {w : World} {K : Act -> World -> Prop} (hc : calmOp o = true) (h : o.wp P a w K Q) : o.wpIn (Fence.wide.inRound l) n P a w K Q := by
 refine ⟨fun _ _ => trivial, ?_⟩
 rw [Oper.semAt_plain _ _ _ (calmOp_ne hc)]
 unfold Oper.wp at h
 generalize (execOp a.eval o).run P w = r at *
 cases r with
 | ok x w' =>
   cases x <;> simp only [Oper.upon, Oper.uponIn] at h ⊢
   case value v => exact h
   case skip => exact h
   case defer d => exact h
   case enter f args => exact ⟨(fun h => by cases h), CallsIn.inRound l (callsIn_wide.2 h)⟩
   case row row args => exact ⟨(fun h => by cases h), fun c cs _ => by
    obtain ⟨v, w2, r, s⟩ := h c cs
    exact ⟨v, w2, r, stepsIn_wide.2 s⟩⟩
 | halt x w' =>
   cases x <;> simp only [Oper.upon, Oper.uponIn] at h ⊢
   exact h
def onlyN (Q : Exit -> Act -> World -> Prop) : Exit -> Act -> World -> Prop
 | .normal, a, w => Q .normal a w
 | _, _, _ => False
theorem onlyN_no (Q : Exit -> Act -> World -> Prop) : ¬ LetsOut (onlyN Q) := fun ⟨_, _, h⟩ => h
theorem wpOpIn_of_wp {ops : Array Oper} (hQ : ¬ LetsOut Q) (hc : ∀ (i : Nat) (o : Oper), ops[i]? = some o -> calmOp o = true) {i : Nat} {a : Act} {w : World} {K K' : Act -> World -> Prop} (hK : ∀ a w, K a w -> K' a w) (h : wpOp P ops Q i K a w) : wpOpIn (Fence.wide.inRound l) n P ops Q i K' a w := by
 unfold wpOp at h
 unfold wpOpIn
 cases ho : ops[i]? with
 | none => rw [ho] at h; exact hK _ _ h
 | some o =>
   rw [ho] at h
   simp only at h ⊢
   split
   · rename_i hw
     rw [if_pos hw] at h
     exact Oper.wpIn_mono hK (wpIn_of_wp (hc i o ho) (h.elim id (fun h => absurd h.2 hQ)))
   · rename_i hw
     rw [if_neg hw] at h
     exact ⟨fun _ _ => trivial, hK _ _ h⟩
theorem wpAnyIn_of_wp {md : Region.Mode} {ops : Array Oper} (hQ : ¬ LetsOut Q) (hc : ∀ (i : Nat) (o : Oper), ops[i]? = some o -> calmOp o = true) : ∀ (fuel : Nat) (listed : Array Bool) (a : Act) (w : World), wpAny P md ops Q fuel listed a w -> wpAnyIn (Fence.wide.inRound l) n P md ops Q fuel listed a w
 | 0, _, _, _, h => h
 | fuel + 1, _, _, _, h => ⟨h.1, fun i hi => wpOpIn_of_wp hQ hc (fun a' w' h' => wpAnyIn_of_wp hQ hc fuel _ a' w' h') (h.2 i hi)⟩
theorem wpIn_region_held {id : Nat} {ops : Array Oper} {a : Act} {w : World} {S : World -> Prop} (hm : P.follows .mixedOrders = true) (hc : ops.all calmOp = true) (hS : S w.drew)
 (h : S w.drew -> wpAnyH P .any ops (onlyN Q) S ops.size (Array.replicate ops.size false) a w.drew) : (Code.region id ops true).wpIn (Fence.wide.inRound l) n P Q a w :=
 wpIn_mono (wpIn_region_any hm (wpAnyIn_of_wp (onlyN_no Q) (fun i o hi => by
  rw [Array.all_eq_true_iff_forall_mem] at hc
  exact hc o (Array.mem_of_getElem? hi)) _ _ _ _ (wpAny_of_held _ _ _ _ (h hS)))) (fun e a w h => by
  cases e <;> first | exact h | exact h.elim)
end
end Go.Proofs.YthoebjekkfhhgaaGreat
