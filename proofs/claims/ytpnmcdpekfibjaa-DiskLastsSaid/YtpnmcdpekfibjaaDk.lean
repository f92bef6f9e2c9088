/-
  Own work. A disk by its contracts: what the laws of layer 5 ask of the program's disk, whatever it is made of. States: the document's own (RM).
-/
import Derived.Test.YtpnmcdpekfibjaaRcp
import Derived.Test.YtpnmcdpekfibjaaRpw
import Derived.Test.YtpnmcdpekfibjaaOx
import Derived.Test.YtpnmcdpekfibjaaIe
namespace Go.Proofs.Ytpnmcdpekfibjaa
open Go.RowKit
set_option linter.unusedVariables false
set_option linter.unusedSimpArgs false

/-- Bytes, booleans that lie in a block outside S. -/
def HasN (w : World) (S : Nat → Prop) (A : Option Addr) (n : Nat) (l : List UInt8) : Prop :=
  n = l.length ∧ (0 < n → ∃ g o, A = some ⟨g, o, none⟩ ∧ g < w.heap.size ∧ ¬ S g ∧ ∀ i b, l[i]? = some b → w.cell? ⟨g, o + i, none⟩ = some (.int .u8 (b.toNat : Int)))
def HasNo (w : World) (S : Nat → Prop) (A : Option Addr) (n : Nat) (l : List Bool) : Prop :=
  n = l.length ∧ (0 < n → ∃ g o, A = some ⟨g, o, none⟩ ∧ g < w.heap.size ∧ ¬ S g ∧ ∀ i b, l[i]? = some b → w.cell? ⟨g, o + i, none⟩ = some (.bool b))
theorem HasB.outside {w : World} {B n : Nat} {A : Option Addr} {l : List UInt8} (h : HasB w B A n l) {S : Nat → Prop} (hB : B ≤ w.heap.size) (hS : ∀ k, k < B → ¬ S k) : HasN w S A n l :=
  ⟨h.1, fun hn => by obtain ⟨g, o, e, hg, hc⟩ := h.2 hn; exact ⟨g, o, e, by omega, hS g hg, hc⟩⟩
theorem HasBo.outside {w : World} {B n : Nat} {A : Option Addr} {l : List Bool} (h : HasBo w B A n l) {S : Nat → Prop} (hB : B ≤ w.heap.size) (hS : ∀ k, k < B → ¬ S k) : HasNo w S A n l :=
  ⟨h.1, fun hn => by obtain ⟨g, o, e, hg, hc⟩ := h.2 hn; exact ⟨g, o, e, by omega, hS g hg, hc⟩⟩
theorem HasNo.nil (w : World) (S : Nat → Prop) (A : Option Addr) : HasNo w S A 0 [] := ⟨rfl, fun h => absurd h (by simp)⟩
/-- A row of the call's own, of blocks from base on, where S's lie below base or are not there. -/
theorem OwnB.outside {w : World} {base n c : Nat} {A : Option Addr} {l : List UInt8} (h : OwnB w base (.slice A n c) l) {S : Nat → Prop} (hS : ∀ k, S k → k < base) : HasN w S A n l := by
  refine ⟨h.len, fun hn => ?_⟩
  obtain ⟨g, e, hb, hlt, hc⟩ := h.head hn
  exact ⟨g, 0, e, hlt, fun hs => absurd (hS g hs) (by omega), fun i b hi => by rw [Nat.zero_add]; exact hc i b hi⟩
def strB (l : List UInt8) : ByteArray := ⟨l.toArray⟩
def lst (s : ByteArray) : List UInt8 := s.data.toList
theorem strB_lst (s : ByteArray) : strB (lst s) = s := by cases s; simp [strB, lst]
theorem strB_size (l : List UInt8) : (strB l).size = l.length := rfl

/-- What an operation of the disk at block g, made of the blocks S, hands back and leaves. -/
def Left2 (D : World → Nat → (Nat → Prop) → Nat → RM → Prop) (w : World) (g : Nat) (S : Nat → Prop) (n : Nat) (v : Value) (m : RM) (e : Ending) (w' : World) : Prop :=
  e = .returned v ∧ (∃ S', D w' g S' n m ∧ ∀ k, S' k → S k ∨ w.heap.size ≤ k) ∧ Only S w w'
/-- A disk by its contracts. -/
structure DK where
  D : World → Nat → (Nat → Prop) → Nat → RM → Prop
  lt : ∀ {w g S n m}, D w g S n m → ∀ k, S k → k < w.heap.size
  only : ∀ {w w' g S T n m}, D w g S n m → Only T w w' → (∀ k, S k → ¬ T k) → D w' g S n m
  new_any : ∀ w (n : Nat), 32 ≤ n → n ≤ 4096 → Calls Try.prog 11 #[.int .i64 (n : Int)] w fun e w' => ∃ g S, e = .returned (.pointer (some ⟨g, 0, none⟩)) ∧ D w' g S n (newM n) ∧ (∀ k, S k → w.heap.size ≤ k) ∧ Below w.heap.size w w'
  new_no : ∀ w (i : Int), i < 32 ∨ 4096 < i → -9223372036854775808 ≤ i ∧ i ≤ 9223372036854775807 → Calls Try.prog 11 #[.int .i64 i] w fun e w' => e = .returned (.pointer none) ∧ Below w.heap.size w w'
  len_any : ∀ {w g S n m}, D w g S n m → m.Ok n → Calls Try.prog 19 #[.pointer (some ⟨g, 0, none⟩)] w fun e w' => e = .returned (.int .i64 (n : Int)) ∧ Below w.heap.size w w'
  dead_any : ∀ {w g S n m}, D w g S n m → m.Ok n → Calls Try.prog 21 #[.pointer (some ⟨g, 0, none⟩)] w fun e w' => e = .returned (.bool m.off) ∧ Below w.heap.size w w'
  writes_any : ∀ {w g S n m}, D w g S n m → m.Ok n → Calls Try.prog 29 #[.pointer (some ⟨g, 0, none⟩)] w fun e w' => e = .returned (.int .i64 (m.wrote : Int)) ∧ Below w.heap.size w w'
  lives_any : ∀ {w g S n m}, D w g S n m → m.Ok n → Calls Try.prog 26 #[.pointer (some ⟨g, 0, none⟩)] w fun e w' => e = .returned (.int .i64 (m.powers : Int)) ∧ Below w.heap.size w w'
  waiting_any : ∀ {w g S n m}, D w g S n m → m.Ok n → Calls Try.prog 22 #[.pointer (some ⟨g, 0, none⟩)] w (RetI w (m.wtK n))
  read_any : ∀ {w g S n m} (i : Int), D w g S n m → m.Ok n → -9223372036854775808 ≤ i ∧ i ≤ 9223372036854775807 → Calls Try.prog 18 #[.pointer (some ⟨g, 0, none⟩), .int .i64 i] w (RetXE w (lst (m.readS n i)) (m.readE n i))
  write_any : ∀ {w g S n m} (i : Int) (A : Option Addr) (q c : Nat) (l : List UInt8), D w g S n m → m.Ok n → m.wrote < 1073741824 → -9223372036854775808 ≤ i ∧ i ≤ 9223372036854775807 → HasN w S A q l → q ≤ c → q ≤ 1073741824 →
    Calls Try.prog 23 #[.pointer (some ⟨g, 0, none⟩), .int .i64 i, .slice A q c] w (Left2 D w g S n (.int .i64 (m.writeE n i (strB l))) (m.writeM n i (strB l)))
  flush_any : ∀ {w g S n m}, D w g S n m → m.Ok n → Calls Try.prog 24 #[.pointer (some ⟨g, 0, none⟩)] w (Left2 D w g S n (.int .i64 m.flushE) (m.flushM n))
  arm_any : ∀ {w g S n m} (a p : Int), D w g S n m → m.Ok n → -9223372036854775808 ≤ a ∧ a ≤ 9223372036854775807 → -9223372036854775808 ≤ p ∧ p ≤ 9223372036854775807 → Calls Try.prog 25 #[.pointer (some ⟨g, 0, none⟩), .int .i64 a, .int .i64 p] w (Left2 D w g S n (.tuple #[]) (m.armM a p))
  power_any : ∀ {w g S n m} (A : Option Addr) (q c : Nat) (keep : List Bool), D w g S n m → m.Ok n → m.powers < 1073741824 → HasNo w S A q keep → q ≤ c → q ≤ 1073741824 → Calls Try.prog 16 #[.pointer (some ⟨g, 0, none⟩), .slice A q c] w (Left2 D w g S n (.tuple #[]) (m.powerM n keep))
  copy_any : ∀ {w g S n m}, D w g S n m → m.Ok n → Calls Try.prog 27 #[.pointer (some ⟨g, 0, none⟩)] w fun e w' => ∃ g' S', e = .returned (.pointer (some ⟨g', 0, none⟩)) ∧ D w' g' S' n m ∧ (∀ k, S' k → w.heap.size ≤ k) ∧ Below w.heap.size w w'

/-! ### A disk of the call's own -/
section
variable {K : DK} {w0 w w' : World} {g n : Nat} {m m' : RM} {v : Value} {e : Ending}
/-- A disk made since w0. -/
def DK.Own (K : DK) (w0 w : World) (g n : Nat) (m : RM) : Prop := ∃ S, K.D w g S n m ∧ (∀ k, S k → w0.heap.size ≤ k) ∧ Below w0.heap.size w0 w
theorem DK.Own.bel (h : K.Own w0 w g n m) : Below w0.heap.size w0 w := by obtain ⟨S, _, _, h3⟩ := h; exact h3
theorem DK.Own.below (h : K.Own w0 w g n m) (hb : Below w.heap.size w w') : K.Own w0 w' g n m := by
  obtain ⟨S, h1, h2, h3⟩ := h
  exact ⟨S, K.only h1 (Only.of_below (S := fun _ => False) hb (Nat.le_refl _)) (fun _ _ h => h), h2, h3.trans (hb.mono h3.size)⟩
theorem DK.Own.drew (h : K.Own w0 w g n m) : K.Own w0 w.drew g n m := by
  obtain ⟨S, h1, h2, h3⟩ := h
  exact ⟨S, K.only h1 (Only.refl (fun _ => False) w).drew (fun _ _ h => h), h2, h3.drew⟩
end
end Go.Proofs.Ytpnmcdpekfibjaa
