/-
  Own work. The program's disk: its pending sectors as a map's datum, its durable ones as one row of bytes.
-/
import Derived.Test.YtkbbpkbchniddaaG2
import Derived.Maps.Range
import Derived.Maps.RangeWalk
import Derived.Lib.SlKeysI
namespace Go.Proofs.Ytkbbpkbchniddaa
open Go.RowKit Go.Maps
set_option linter.unusedVariables false
set_option linter.unusedSimpArgs false

abbrev DU := DataW Unit
theorem lst_len (s : ByteArray) : (lst s).length = s.size := rfl

/-! ### How a sector reads as a map's element -/
def unByte : Value → Option UInt8
  | .int .u8 a => if 0 ≤ a ∧ a < 256 then some (UInt8.ofNat a.toNat) else none
  | _ => none
def unBytes : List Value → Option (List UInt8)
  | [] => some []
  | v :: r => match unByte v, unBytes r with
    | some b, some l => some (b :: l)
    | _, _ => none
def secElem (v : Value) : Option (DU × List MemPlace) :=
  match v with
  | .agg cs => match unBytes cs.toList with
    | some l => if l.length = 512 then some (.lit (.string l), []) else none
    | none => none
  | _ => none
theorem unByte_mk (b : UInt8) : unByte (.int .u8 (b.toNat : Int)) = some b := by
  have h := b.toNat_lt
  show (if 0 ≤ (b.toNat : Int) ∧ (b.toNat : Int) < 256 then some (UInt8.ofNat (b.toNat : Int).toNat) else none) = some b
  rw [if_pos (by constructor <;> omega)]
  simp
theorem unBytes_mk : ∀ l : List UInt8, unBytes (cellsB l) = some l
  | [] => rfl
  | b :: r => by
    have h2 := unBytes_mk r
    have h1 := unByte_mk b
    unfold cellsB at h2 ⊢
    rw [List.map_cons, unBytes, h1, h2]
theorem unByte_inv {v : Value} {b : UInt8} (h : unByte v = some b) : v = .int .u8 (b.toNat : Int) := by
  unfold unByte at h
  split at h
  · split at h
    · rename_i a hc
      simp only [Option.some.injEq] at h
      rw [← h]
      congr 1
      have : (UInt8.ofNat a.toNat).toNat = a.toNat % 256 := by simp
      rw [this]
      omega
    · cases h
  · cases h
theorem unBytes_inv : ∀ {vs : List Value} {l : List UInt8}, unBytes vs = some l → vs = cellsB l
  | [], l, h => by
    simp only [unBytes, Option.some.injEq] at h
    subst h
    rfl
  | v :: r, l, h => by
    unfold unBytes at h
    split at h
    · rename_i b l' hb hl
      simp only [Option.some.injEq] at h
      subst h
      rw [unByte_inv hb, unBytes_inv hl]
      rfl
    · cases h
theorem secElem_mk {l : List UInt8} (h : l.length = 512) : secElem (.agg (cellsB l).toArray) = some (.lit (.string l), []) := by
  show (match unBytes (cellsB l) with | some l => if l.length = 512 then some ((DataW.lit (.string l) : DU), ([] : List MemPlace)) else none | none => none) = _
  rw [unBytes_mk]
  show (if l.length = 512 then _ else _) = _
  rw [if_pos h]
theorem secElem_inv {v : Value} {y : DU × List MemPlace} (h : secElem v = some y) : ∃ l : List UInt8, v = .agg (cellsB l).toArray ∧ l.length = 512 ∧ y = (.lit (.string l), []) := by
  unfold secElem at h
  split at h
  · rename_i cs
    split at h
    · rename_i l hl
      split at h
      · rename_i hlen
        simp only [Option.some.injEq] at h
        refine ⟨l, ?_, hlen, h.symm⟩
        rw [← unBytes_inv hl]
      · cases h
    · cases h
  · cases h

/-! ### The pending sectors as a map's datum -/
def kI (i : Nat) : Lit := .int .i64 (i : Int)
theorem kI_key (i : Nat) : WideAt.IsKeyLit (kI i) := by unfold kI; simp [WideAt.IsKeyLit]
theorem kI_inj {i j : Nat} (h : kI i = kI j) : i = j := by
  unfold kI at h
  injection h with _ h
  omega
structure MapOf (D : DU) (n : Nat) (wait : List ByteArray) : Prop where
  ism : IsMap D
  hs : ∀ kl, Maps.has D kl = true → ∃ i : Nat, i < n ∧ kl = kI i
  hi : ∀ i, i < n → Maps.has D (kI i) = decide ((wait.getD i emp).size ≠ 0)
  at_ : ∀ i, i < n → (wait.getD i emp).size ≠ 0 → ∀ z, D.atKey (kI i) z = .lit (.string (lst (wait.getD i emp)))
theorem MapOf.put {D : DU} {n : Nat} {wait : List ByteArray} (h : MapOf D n wait) (hw : wait.length = n) {i : Nat} (hi : i < n) {s : ByteArray} (hs : s.size ≠ 0) : MapOf (D.put (kI i) (.lit (.string (lst s)))) n (wait.set i s) := by
  refine ⟨h.ism.put _ _, fun kl hk => ?_, fun j hj => ?_, fun j hj hne z => ?_⟩
  · by_cases e : kl = kI i
    · exact ⟨i, hi, e⟩
    · rw [has_put_other e] at hk
      exact h.hs kl hk
  · rw [getD_set _ _ _ _ (by omega)]
    by_cases e : i = j
    · subst e
      rw [has_put_same h.ism (kI_key i), if_pos rfl, eq_comm, decide_eq_true_iff]
      exact hs
    · rw [has_put_other (fun e' => e (kI_inj e').symm), if_neg e]
      exact h.hi j hj
  · rw [getD_set _ _ _ _ (by omega)] at hne ⊢
    by_cases e : i = j
    · subst e
      rw [atKey_put_same h.ism (kI_key i), if_pos rfl]
    · rw [atKey_put_other (fun e' => e (kI_inj e').symm)]
      rw [if_neg e] at hne ⊢
      exact h.at_ j hj hne z
theorem MapOf.none (n : Nat) (wait : List ByteArray) (h : ∀ i, i < n → (wait.getD i emp).size = 0) : MapOf (.map []) n wait :=
  ⟨isMap_empty, fun kl hk => by simp [Maps.has] at hk, fun i hi => by rw [h i hi]; simp [Maps.has], fun i hi hne => absurd (h i hi) hne⟩
theorem MapOf.no {D : DU} {n : Nat} {wait : List ByteArray} (h : MapOf D n wait) {i : Nat} (hi : i < n) (hw : (wait.getD i emp).size = 0) (z : DU) : D.atKey (kI i) z = z :=
  atKey_of_not_has (by rw [h.hi i hi, hw]; rfl) z

/-! ### The keys, sorted -/
theorem MapOf.keys {D : DU} {n : Nat} {m : RM} (h : MapOf D n m.wait) {es : List (Lit × DU)} (hD : D = .map es) (hp : es.Pairwise (fun p q => p.1 ≠ q.1)) (hk : ∀ p ∈ es, WideAt.IsKeyLit p.1) :
    ((m.wtK n).map fun (i : Nat) => (i : Int)).Perm (intKeys D) := by
  subst hD
  refine perm_intKeys hp (fun p hp' => ?_) ?_ (fun x => ?_)
  · obtain ⟨i, _, e⟩ := h.hs p.1 (List.any_eq_true.2 ⟨p, hp', WideAt.sameKey_self (hk p hp')⟩)
    exact ⟨_, e⟩
  · refine List.pairwise_map.2 ((List.Pairwise.filter _ (List.nodup_range (n := n))).imp ?_)
    intro a b hne e
    exact hne (by omega)
  · rw [List.mem_map]
    constructor
    · rintro ⟨i, hi, rfl⟩
      unfold RM.wtK at hi
      rw [List.mem_filter, List.mem_range] at hi
      show Maps.has _ (kI i) = true
      rw [h.hi i hi.1]
      exact hi.2
    · intro hx
      obtain ⟨i, hi, e⟩ := h.hs _ hx
      have ei : x = (i : Int) := by
        unfold kI at e
        injection e
      subst ei
      refine ⟨i, ?_, rfl⟩
      have hx' : Maps.has (.map es) (kI i) = true := hx
      rw [h.hi i hi] at hx'
      unfold RM.wtK
      rw [List.mem_filter, List.mem_range]
      exact ⟨hi, hx'⟩
theorem RM.wtK_sorted (m : RM) (n : Nat) : ((m.wtK n).map fun (i : Nat) => (i : Int)).mergeSort leI = (m.wtK n).map fun (i : Nat) => (i : Int) := by
  refine List.mergeSort_of_pairwise ?_
  refine List.pairwise_map.2 ?_
  refine (List.Pairwise.filter _ (List.pairwise_lt_range (n := n))).imp ?_
  intro a b hlt
  simp only [leI, decide_eq_true_eq]
  omega

/-! ### The durable sectors as one row of bytes -/
def flat (l : List ByteArray) : List UInt8 := l.flatMap lst
theorem flat_cons (s : ByteArray) (r : List ByteArray) : flat (s :: r) = lst s ++ flat r := rfl
theorem flat_len : ∀ {l : List ByteArray}, (∀ s ∈ l, s.size = 512) → (flat l).length = 512 * l.length
  | [], _ => rfl
  | s :: r, h => by
    rw [flat_cons, List.length_append, lst_len, h s (by simp), flat_len (l := r) (fun t ht => h t (by simp [ht])), List.length_cons]
    omega
theorem flat_sub : ∀ {l : List ByteArray}, (∀ s ∈ l, s.size = 512) → ∀ {i : Nat} {s : ByteArray}, l[i]? = some s → ∀ j b, (lst s)[j]? = some b → (flat l)[512 * i + j]? = some b
  | [], _, i, s, h, _, _, _ => by simp at h
  | t :: r, hs, 0, s, h, j, b, hb => by
    simp only [List.getElem?_cons_zero, Option.some.injEq] at h
    subst h
    rw [flat_cons, Nat.mul_zero, Nat.zero_add, List.getElem?_append_left (List.getElem?_eq_some_iff.1 hb).1]
    exact hb
  | t :: r, hs, i + 1, s, h, j, b, hb => by
    have ht : (lst t).length = 512 := hs t (by simp)
    rw [flat_cons, List.getElem?_append_right (by rw [ht]; omega), ht]
    rw [show 512 * (i + 1) + j - 512 = 512 * i + j from by omega]
    exact flat_sub (l := r) (fun t ht => hs t (by simp [ht])) (by simpa using h) j b hb
theorem flat_set : ∀ {l : List ByteArray}, (∀ s ∈ l, s.size = 512) → ∀ {i : Nat}, i < l.length → ∀ s : ByteArray, flat (l.set i s) = (flat l).take (512 * i) ++ lst s ++ (flat l).drop (512 * i + 512)
  | [], _, i, h, _ => by simp at h
  | t :: r, hs, 0, h, s => by
    have ht : (lst t).length = 512 := hs t (by simp)
    rw [List.set_cons_zero, flat_cons, flat_cons, Nat.mul_zero, List.take_zero, List.nil_append, Nat.zero_add, ← ht, List.drop_left]
  | t :: r, hs, i + 1, h, s => by
    have ht : (lst t).length = 512 := hs t (by simp)
    rw [List.set_cons_succ, flat_cons, flat_cons, flat_set (l := r) (fun t ht => hs t (by simp [ht])) (by simpa using h) s]
    have e1 : (lst t).take (512 * (i + 1)) = lst t := List.take_of_length_le (by rw [ht]; omega)
    have e2 : (lst t).drop (512 * (i + 1) + 512) = [] := List.drop_eq_nil_of_le (by rw [ht]; omega)
    rw [List.take_append, List.drop_append, e1, e2, ht]
    rw [show 512 * (i + 1) - 512 = 512 * i from by omega, show 512 * (i + 1) + 512 - 512 = 512 * i + 512 from by omega]
    simp [List.append_assoc]
theorem flat_rep (n : Nat) : flat (List.replicate n ⟨(zer 512).toArray⟩) = zer (512 * n) := by
  induction n with
  | zero => rfl
  | succ n ih =>
    rw [List.replicate_succ, flat_cons, ih]
    show zer 512 ++ zer (512 * n) = _
    unfold zer
    rw [List.replicate_append_replicate]
    congr 1
    omega
end Go.Proofs.Ytkbbpkbchniddaa
