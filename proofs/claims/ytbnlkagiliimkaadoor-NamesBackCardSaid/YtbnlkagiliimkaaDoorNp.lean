/-
  Own work. Names, digits and numbers as functions on lists of bytes.
-/
import Derived.Test.YtbnlkagiliimkaaDoorIi
import Derived.Test.YtbnlkagiliimkaaDoorDg
import Derived.Test.YtbnlkagiliimkaaDoorRy
import Derived.Laws.Concat
namespace Go.Proofs.YtbnlkagiliimkaaDoor
open Go.RowKit
set_option linter.unusedVariables false
set_option linter.unusedSimpArgs false

def hexC (x : Nat) : UInt8 := digL.getD x 0
def hexL (l : List UInt8) : List UInt8 := (l.map fun b => [hexC (b.toNat / 16), hexC (b.toNat % 16)]).flatten
def unhL : List UInt8 → List UInt8
  | a :: b :: l => UInt8.ofNat (16 * dgE a + dgE b).toNat :: unhL l
  | _ => []
def isHex (c : UInt8) : Bool := decide (0 ≤ dgE c)
def unhE (l : List UInt8) : Int := if l.all isHex = true ∧ l.length % 2 = 0 then 0 else 4
def unhR (l : List UInt8) : List UInt8 := if unhE l = 0 then unhL l else []
def idE (l : List UInt8) : Int := if unhE l = 0 then (if (unhL l).length = 32 then 0 else 9) else 4
def idL (l : List UInt8) : List UInt8 := if idE l = 0 then unhL l else List.replicate 32 0
def isDec (c : UInt8) : Bool := decide (48 ≤ c.toNat ∧ c.toNat ≤ 57)
def decV (l : List UInt8) : Nat := l.foldl (fun a c => a * 10 + (c.toNat - 48)) 0
def numE (l : List UInt8) : Int := if l = [] ∨ l.all isDec = false ∨ (l.headD 0 = 48 ∧ 1 < l.length) then 4 else if decV l ≤ 9223372036854775807 then 0 else 2
def numV (l : List UInt8) : Nat := if numE l = 0 then decV l else 0
def decL (m : Nat) : List UInt8 := if m < 10 then [UInt8.ofNat (48 + m)] else decL (m / 10) ++ [UInt8.ofNat (48 + m % 10)]
termination_by m
decreasing_by omega
def prtL (n : Int) : List UInt8 := (if n < 0 then [45] else []) ++ decL n.natAbs

def RetStr (w : World) (l : List UInt8) (e : Ending) (w' : World) : Prop := e = .returned (.string ⟨l.toArray⟩) ∧ Below w.heap.size w w'
def RetTell (w : World) (r : Bool) (e : Ending) (w' : World) : Prop := e = .returned (.bool r) ∧ Below w.heap.size w w'
def RetNum (w : World) (v : Nat) (k : Int) (e : Ending) (w' : World) : Prop := e = .returned (.tuple #[.int .i64 (v : Int), .int .i64 k]) ∧ Below w.heap.size w w'
def RetIDE (w : World) (l : List UInt8) (k : Int) (e : Ending) (w' : World) : Prop := e = .returned (.tuple #[.agg (cellsB l).toArray, .int .i64 k]) ∧ Below w.heap.size w w'

theorem hexL_snoc (l : List UInt8) (k : Nat) (b : UInt8) (h : l[k]? = some b) : hexL (l.take (k + 1)) = hexL (l.take k) ++ [hexC (b.toNat / 16), hexC (b.toNat % 16)] := by
  obtain ⟨hk, rfl⟩ := List.getElem?_eq_some_iff.1 h
  unfold hexL
  rw [List.take_succ_eq_append_getElem hk, List.map_append, List.flatten_append]
  simp
theorem hexL_len (l : List UInt8) : (hexL l).length = 2 * l.length := by
  induction l with
  | nil => rfl
  | cons a l ih =>
    have e : hexL (a :: l) = [hexC (a.toNat / 16), hexC (a.toNat % 16)] ++ hexL l := rfl
    rw [e, List.length_append, ih]
    simp
    omega
theorem dig_ext : ∀ x : Fin 16, (⟨digL.toArray⟩ : ByteArray).extract x.val (x.val + 1) = ⟨[hexC x.val].toArray⟩ := by decide +kernel
theorem str_app (a b : List UInt8) (S T : ByteArray) (hS : S = ⟨a.toArray⟩) (hT : T = ⟨b.toArray⟩) : S ++ T = ⟨(a ++ b).toArray⟩ := by
  subst hS hT
  exact ByteArray.mk_append_mk a b
end Go.Proofs.YtbnlkagiliimkaaDoor
