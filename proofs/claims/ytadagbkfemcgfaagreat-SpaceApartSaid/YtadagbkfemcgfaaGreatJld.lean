/-
  Own work. The journal: what load needs: newest on a disk that lives; a fresh sector beside the journal.
-/
import Derived.Test.YtadagbkfemcgfaaGreatJnw
namespace Go.Proofs.YtadagbkfemcgfaaGreat
open Go.RowKit Go.Maps
set_option linter.unusedVariables false
set_option linter.unusedSimpArgs false

/-- A port whose reads all succeed is left as it was. -/
theorem Pt.rd_ok {p : Pt} {n : Nat} {i : Int} (h : p.m.readE n i = 0) (he : p.e = 0) : p.rd n i = p := by
  obtain ⟨m, e⟩ := p
  unfold Pt.rd
  rw [if_pos he]
  show (⟨m, m.readE n i⟩ : Pt) = ⟨m, e⟩
  rw [show m.readE n i = 0 from h, show e = 0 from he]
theorem Pt.rdS_ok {p : Pt} {n : Nat} {i : Int} (h : p.m.readE n i = 0) (he : p.e = 0) : p.rdS n i = lst (p.m.readS n i) := by
  unfold Pt.rdS
  rw [if_pos ⟨he, h⟩]
theorem nwP_ok {p : Pt} {n : Nat} (he : p.e = 0) : ∀ k : Nat, (∀ i : Nat, i < k → p.m.readE n (i : Int) = 0) → nwP p n k = p
  | 0, _ => rfl
  | k + 1, h => by
    show (nwP p n k).rd n (k : Int) = p
    rw [nwP_ok he k (fun i hi => h i (by omega))]
    exact Pt.rd_ok (h k (by omega)) he
theorem nwM_ok {p : Pt} {n : Nat} (he : p.e = 0) : ∀ k : Nat, (∀ i : Nat, i < k → p.m.readE n (i : Int) = 0) → nwM p n k = newK p.m n k
  | 0, _ => rfl
  | k + 1, h => by
    have h1 := nwM_ok he k (fun i hi => h i (by omega))
    have h2 := nwP_ok he k (fun i hi => h i (by omega))
    show (if markB n ((nwP p n k).rdS n (k : Int)) = true ∧ (nwM p n k).num < (markS ((nwP p n k).rdS n (k : Int))).num then markS ((nwP p n k).rdS n (k : Int)) else nwM p n k) = _
    rw [h1, h2, Pt.rdS_ok (h k (by omega)) he]
    rfl
/-- An error stays. -/
theorem Pt.rd_err {p : Pt} {n : Nat} {i : Int} (he : p.e ≠ 0) : p.rd n i = p := by
  unfold Pt.rd
  rw [if_neg he]
/-- No error behind k reads: each of them gave 0. -/
theorem nwP_no {p : Pt} {n : Nat} : ∀ k : Nat, (nwP p n k).e = 0 → p.e = 0 ∧ ∀ i : Nat, i < k → p.m.readE n (i : Int) = 0
  | 0, h => ⟨h, fun i hi => absurd hi (by omega)⟩
  | k + 1, h => by
    by_cases he : (nwP p n k).e = 0
    · obtain ⟨h1, h2⟩ := nwP_no k he
      refine ⟨h1, fun i hi => ?_⟩
      by_cases hik : i < k
      · exact h2 i hik
      · have : i = k := by omega
        subst this
        have h3 : ((nwP p n i).rd n (i : Int)).e = 0 := h
        unfold Pt.rd at h3
        rw [if_pos he, nwP_m] at h3
        exact h3
    · have h3 : ((nwP p n k).rd n (k : Int)).e = 0 := h
      rw [Pt.rd_err he] at h3
      exact absurd h3 he
/-- A disk that gives sector 0 gives every sector of its own. -/
theorem RM.readE_all {m : RM} {n : Nat} (h : m.readE n 0 = 0) {i : Int} (h0 : 0 ≤ i) (h1 : i < n) : m.readE n i = 0 := by
  unfold RM.readE at h ⊢
  split at h
  · cases h
  · rename_i hd
    rw [if_neg hd]
    split
    · rename_i hh
      omega
    · split at h
      · cases h
      · exact h
section
variable {Z : DK} {w w' W W' : World} {g gd gp n : Nat} {S T : Nat → Prop} {e : Int} {j : JM} {m : RM} {p : Pt}
/-- The journal beside a fresh sector at gm. -/
def LeftK (Z : DK) (w : World) (g gd gp n : Nat) (S : Nat → Prop) (p : Pt) (j : JM) (gm : Nat) (s : List UInt8) (W : World) : Prop :=
  ∃ S2, Z.D W gd S2 n p.m ∧ (∀ k, S2 k → S k ∨ w.heap.size ≤ k) ∧ JO W g gd gp n p.e j ∧ Only (fun k => S k ∨ k = g ∨ k = gp) w W ∧ ¬ S2 gm ∧ Bw W gm 98 s ∧ w.heap.size ≤ gm
theorem LeftK.left {gm : Nat} {s : List UInt8} (l : LeftK Z w g gd gp n S p j gm s W) : LeftJ Z w g gd gp n S p j W := by
  obtain ⟨S2, d, hs, o, y, _, _, _⟩ := l
  exact ⟨⟨S2, d, hs⟩, o, y⟩
theorem LeftK.bw {gm : Nat} {s : List UInt8} (l : LeftK Z w g gd gp n S p j gm s W) : Bw W gm 98 s := by
  obtain ⟨S2, d, hs, o, y, _, h, _⟩ := l
  exact h
theorem LeftJ.gm (l : LeftJ Z w g gd gp n S p j W) (s : List UInt8) : LeftK Z w g gd gp n S p j W.heap.size s (W.alloc (.cells (cellsB s).toArray 98)) := by
  obtain ⟨⟨S2, d, hs⟩, o, y⟩ := l
  have hb : Below W.heap.size W (W.alloc (.cells (cellsB s).toArray 98)) := (Below.refl _ W).alloc (Nat.le_refl _) _
  exact ⟨S2, Z.only d (Only.of_below (S := fun _ => False) hb (Nat.le_refl _)) (fun _ _ h => h), hs, o.below hb, y.trans (Only.of_below hb (Nat.le_refl _)), fun hh => by have := Z.lt d _ hh; omega, Bw.new W s _, y.size⟩
theorem LeftK.below {gm : Nat} {s : List UInt8} (l : LeftK Z w g gd gp n S p j gm s W) (hb : Below W.heap.size W W') : LeftK Z w g gd gp n S p j gm s W' := by
  obtain ⟨S2, d, hs, o, y, h1, h2, h3⟩ := l
  exact ⟨S2, Z.only d (Only.of_below (S := fun _ => False) hb (Nat.le_refl _)) (fun _ _ h => h), hs, o.below hb, y.trans (Only.of_below hb (Nat.le_refl _)), h1, h2.below hb h2.lt, h3⟩
/-- A call that begins where the sector stands already. -/
theorem LeftK.call {w1 : World} {gm : Nat} {s : List UInt8} (hb : Below w.heap.size w w1) (hm : Bw w1 gm 98 s) (h1 : w.heap.size ≤ gm) (hlt : ∀ k, S k → k < w.heap.size) (hg : g < w.heap.size) (hp : gp < w.heap.size) (l : LeftJ Z w1 g gd gp n S p j W) : LeftK Z w g gd gp n S p j gm s W := by
  obtain ⟨⟨S2, d, hs⟩, o, y⟩ := l
  have hm1 := hm.lt
  refine ⟨S2, d, fun k hk => (hs k hk).imp id fun h => Nat.le_trans hb.size h, o, (Only.of_below hb (Nat.le_refl _)).trans y, fun hh => ?_, hm.keepO y (fun hh => ?_), h1⟩
  · rcases hs _ hh with h2 | h2
    · have := hlt _ h2; omega
    · omega
  · rcases hh with h2 | h2 | h2
    · have := hlt _ h2; omega
    · omega
    · omega
theorem LeftK.row {w1 : World} {gm : Nat} {s s' : List UInt8} (l : LeftK Z w g gd gp n S p j gm s W) (hg : g < w.heap.size) (hp : gp < w.heap.size) (h' : Bw w1 gm 98 s') (ho : Only (fun k => k = gm) W w1) : LeftK Z w g gd gp n S p j gm s' w1 := by
  obtain ⟨S2, d, hs, o, y, h1, h2, h3⟩ := l
  exact ⟨S2, Z.only d ho (fun k hk hh => h1 (hh ▸ hk)), hs, o.only ho (by omega) (by omega), y.trans' ho (fun k hk hh => by omega), h1, h', h3⟩
end
end Go.Proofs.YtadagbkfemcgfaaGreat
