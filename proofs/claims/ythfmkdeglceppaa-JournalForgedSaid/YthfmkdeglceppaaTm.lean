/-
  Own work. A transaction in memory: its journal, its turn, its map of sectors; calls of the journal beside blocks of the call's own.
-/
import Derived.Test.YthfmkdeglceppaaOb
import Derived.Test.YthfmkdeglceppaaLs7
namespace Go.Proofs.Ythfmkdeglceppaa
open Go.RowKit Go.Maps
set_option linter.unusedVariables false
set_option linter.unusedSimpArgs false

/-! ### How a pointer to a sector reads as a map's element -/
def ptrElem (v : Value) : Option (DU × List MemPlace) :=
  match v with
  | .pointer none => some (.lit (.int .i64 (-1)), [])
  | .pointer (some ⟨b, 0, none⟩) => some (.lit (.int .i64 (b : Int)), [])
  | _ => none
theorem ptrElem_mk (b : Nat) : ptrElem (.pointer (some ⟨b, 0, none⟩)) = some (.lit (.int .i64 (b : Int)), []) := rfl
theorem ptrElem_inv {v : Value} {y : DU × List MemPlace} (h : ptrElem v = some y) : (v = .pointer none ∧ y = (.lit (.int .i64 (-1)), [])) ∨ ∃ b : Nat, v = .pointer (some ⟨b, 0, none⟩) ∧ y = (.lit (.int .i64 (b : Int)), []) := by
  unfold ptrElem at h
  split at h
  · simp only [Option.some.injEq] at h
    exact .inl ⟨rfl, h.symm⟩
  · simp only [Option.some.injEq] at h
    exact .inr ⟨_, rfl, h.symm⟩
  · cases h
/-- The map of what is written: at home i the block pb i. -/
structure MapOfP (D : DU) (n : Nat) (ws : List ByteArray) (pb : Nat → Nat) : Prop where
  ism : IsMap D
  hs : ∀ kl, Maps.has D kl = true → ∃ i : Nat, i < n ∧ kl = kI i
  hi : ∀ i, i < n → Maps.has D (kI i) = decide ((ws.getD i emp).size ≠ 0)
  at_ : ∀ i, i < n → (ws.getD i emp).size ≠ 0 → ∀ z, D.atKey (kI i) z = .lit (.int .i64 (pb i : Int))
theorem MapOfP.put {D : DU} {n : Nat} {ws : List ByteArray} {pb : Nat → Nat} (h : MapOfP D n ws pb) (hw : ws.length = n) {i : Nat} (hi : i < n) {s : ByteArray} (hs : s.size ≠ 0) (b : Nat) : MapOfP (D.put (kI i) (.lit (.int .i64 (b : Int)))) n (ws.set i s) (fun k => if k = i then b else pb k) := by
  refine ⟨h.ism.put _ _, fun kl hk => ?_, fun j hj => ?_, fun j hj hne z => ?_⟩
  · by_cases e : kl = kI i
    · exact ⟨i, hi, e⟩
    · rw [has_put_other e] at hk
      exact h.hs kl hk
  · rw [getD_set _ _ _ _ (by omega)]
    by_cases e : i = j
    · subst e
      rw [has_put_same h.ism (kI_key i), if_pos rfl, eq_comm, decide_eq_true_iff]
      exact hs
    · rw [has_put_other (fun e' => e (kI_inj e').symm), if_neg e]
      exact h.hi j hj
  · rw [getD_set _ _ _ _ (by omega)] at hne
    by_cases e : i = j
    · subst e
      rw [atKey_put_same h.ism (kI_key i), if_pos rfl]
    · rw [atKey_put_other (fun e' => e (kI_inj e').symm), if_neg (fun e' => e e'.symm)]
      rw [if_neg e] at hne
      exact h.at_ j hj hne z
theorem MapOfP.none (n : Nat) (ws : List ByteArray) (pb : Nat → Nat) (h : ∀ i, i < n → (ws.getD i emp).size = 0) : MapOfP (.map []) n ws pb :=
  ⟨isMap_empty, fun kl hk => by simp [Maps.has] at hk, fun i hi => by rw [h i hi]; simp [Maps.has], fun i hi hne => absurd (h i hi) hne⟩
theorem MapOfP.no {D : DU} {n : Nat} {ws : List ByteArray} {pb : Nat → Nat} (h : MapOfP D n ws pb) {i : Nat} (hi : i < n) (hw : (ws.getD i emp).size = 0) (z : DU) : D.atKey (kI i) z = z :=
  atKey_of_not_has (by rw [h.hi i hi, hw]; rfl) z
theorem MapOfP.keys {D : DU} {n : Nat} {ws : List ByteArray} {pb : Nat → Nat} (h : MapOfP D n ws pb) {es : List (Lit × DU)} (hD : D = .map es) (hp : es.Pairwise (fun p q => p.1 ≠ q.1)) (hk : ∀ p ∈ es, WideAt.IsKeyLit p.1) :
    ((frK ws n).map fun (i : Nat) => (i : Int)).Perm (intKeys D) := by
  subst hD
  refine perm_intKeys hp (fun p hp' => ?_) ?_ (fun x => ?_)
  · obtain ⟨i, _, e⟩ := h.hs p.1 (List.any_eq_true.2 ⟨p, hp', WideAt.sameKey_self (hk p hp')⟩)
    exact ⟨_, e⟩
  · refine List.pairwise_map.2 ((List.Pairwise.filter _ (List.nodup_range (n := n))).imp ?_)
    intro a b hne e
    exact hne (by omega)
  · rw [List.mem_map]
    constructor
    · rintro ⟨i, hi, rfl⟩
      obtain ⟨h1, h2⟩ := frK_mem hi
      show Maps.has _ (kI i) = true
      rw [h.hi i h1, decide_eq_true_iff]
      exact h2
    · intro hx
      obtain ⟨i, hi, e⟩ := h.hs _ hx
      have ei : x = (i : Int) := by
        unfold kI at e
        injection e
      subst ei
      refine ⟨i, ?_, rfl⟩
      have hx' : Maps.has (.map es) (kI i) = true := hx
      rw [h.hi i hi, decide_eq_true_iff] at hx'
      exact frK_in hi hx'

theorem ownsMap_onlyP {S : Nat → Prop} {w w' : World} {D : DU} {b c : Nat} (h : w.ownsMap Try.prog 3 ptrElem b c D) (ho : Only S w w') (hS : ¬ S b) : w'.ownsMap Try.prog 3 ptrElem b c D := by
  have hlt := h.lt
  obtain ⟨es, clock, hb, r⟩ := h
  exact ⟨es, clock, (ho.block b hlt hS).trans hb, r⟩

/-! ### A transaction -/
def txC (g T gm : Nat) : Array Value := #[.pointer (some ⟨g, 0, none⟩), .int .u64 (T : Int), .map (some gm)]
/-- What a transaction's value, of the map gm, has written: ws, in blocks of M; h homes; at most q writes. -/
structure TV (w : World) (gm h q : Nat) (ws : List ByteArray) (M : Nat → Prop) : Prop where
  ex : ∃ (D : DU) (pb : Nat → Nat), w.ownsMap Try.prog 3 ptrElem gm q D ∧ MapOfP D h ws pb ∧ ∀ i, i < h → (ws.getD i emp).size ≠ 0 → M (pb i) ∧ Bw w (pb i) 109 (lst (ws.getD i emp))
  mg : M gm
  ml : ∀ k, M k → k < w.heap.size
  wl : ws.length = h
  wz : ∀ s ∈ ws, s.size = 0 ∨ s.size = 512
  hh : h ≤ 4096
/-- A transaction at block gt, over the journal at g, begun at turn T. -/
structure TO (w : World) (gt g T h q : Nat) (ws : List ByteArray) (M : Nat → Prop) : Prop where
  ex : ∃ gm, w.heap[gt]? = some (.cells (txC g T gm) 74 (0, 0)) ∧ TV w gm h q ws M
  gt : ¬ M gt
  tn : T < 9223372036854775808
section
variable {w w' : World} {gt g T h q gm : Nat} {ws : List ByteArray} {M S : Nat → Prop}
theorem TV.only (a : TV w gm h q ws M) (ho : Only S w w') (hS : ∀ k, M k → ¬ S k) : TV w' gm h q ws M := by
  obtain ⟨⟨D, pb, h1, h2, h3⟩, mg, ml, wl, wz, hh⟩ := a
  refine ⟨⟨D, pb, ownsMap_onlyP h1 ho (hS _ mg), h2, fun i hi hne => ?_⟩, mg, fun k hk => Nat.lt_of_lt_of_le (ml k hk) ho.size, wl, wz, hh⟩
  obtain ⟨m1, m2⟩ := h3 i hi hne
  exact ⟨m1, (ho.block _ (ml _ m1) (hS _ m1)).trans m2⟩
theorem TO.lt (a : TO w gt g T h q ws M) : gt < w.heap.size := by
  obtain ⟨⟨gm, h1, _⟩, _, _⟩ := a
  exact (Array.getElem?_eq_some_iff.1 h1).1
theorem TO.ml (a : TO w gt g T h q ws M) : ∀ k, M k → k < w.heap.size := by
  obtain ⟨⟨gm, h1, v⟩, _, _⟩ := a
  exact v.ml
theorem TO.only (a : TO w gt g T h q ws M) (ho : Only S w w') (hg : ¬ S gt) (hS : ∀ k, M k → ¬ S k) : TO w' gt g T h q ws M := by
  have hl := a.lt
  obtain ⟨⟨gm, h1, v⟩, gt', tn⟩ := a
  exact ⟨⟨gm, (ho.block _ hl hg).trans h1, v.only ho hS⟩, gt', tn⟩
theorem TO.below (a : TO w gt g T h q ws M) (hb : Below w.heap.size w w') : TO w' gt g T h q ws M := a.only (Only.of_below (S := fun _ => False) hb (Nat.le_refl _)) (fun h => h) (fun _ _ h => h)
theorem TO.nil_of (hb : w.heap[gt]? = some (.cells (txC g T gm) 74 (0, 0))) (hm : w.ownsMap Try.prog 3 ptrElem gm 0 (.map [])) (hne : gt ≠ gm) (hT : T < 9223372036854775808) (hh : h ≤ 4096) : TO w gt g T h 0 (List.replicate h emp) (fun k => k = gm) := by
  have h0 : ∀ i : Nat, i < h → ((List.replicate h emp).getD i emp).size = 0 := fun i _ => by
    rw [List.getD_eq_getElem?_getD, List.getElem?_replicate]
    split <;> rfl
  refine ⟨⟨gm, hb, ⟨_, fun _ => 0, hm, MapOfP.none _ _ _ h0, fun i hi hne => absurd (h0 i hi) hne⟩, rfl, fun k hk => by subst hk; exact hm.lt, List.length_replicate, fun s hs => .inl (by rw [List.eq_of_mem_replicate hs]; rfl), hh⟩, hne, hT⟩
end
/-- A finished transaction, or a zero one. -/
def TZ (w : World) (gt : Nat) : Prop := w.heap[gt]? = some (.cells #[.pointer none, .int .u64 0, .map none] 74 (0, 0))
theorem TZ.lt {w : World} {gt : Nat} (h : TZ w gt) : gt < w.heap.size := (Array.getElem?_eq_some_iff.1 h).1
theorem TZ.only {w w' : World} {gt : Nat} {S : Nat → Prop} (h : TZ w gt) (ho : Only S w w') (hS : ¬ S gt) : TZ w' gt := (ho.block _ h.lt hS).trans h
theorem TZ.below {w w' : World} {gt : Nat} (h : TZ w gt) (hb : Below w.heap.size w w') : TZ w' gt := (hb.block _ h.lt).trans h

/-! ### Calls of the journal beside blocks of the call's own -/
section
variable {Z : DK} {w0 W W' : World} {g gd gp n : Nat} {p p' : Pt} {j j' : JM} {B : Nat → Prop}
theorem UpB.call {f : Nat} {args : Array Value} {R : Ending → World → Prop} (a : UpB Z w0 W g gd gp n p j B)
    (h : ∀ S, Z.D W gd S n p.m → JO W g gd gp n p.e j → Apart W g gp S → Calls Try.prog f args W fun en W' => R en W' ∧ LeftJ Z W g gd gp n S p' j' W') :
    Calls Try.prog f args W fun en W' => R en W' ∧ UpB Z w0 W' g gd gp n p' j' B ∧ Only (fun k => ¬ B k) W W' := by
  obtain ⟨S, d, o, h1, h2, h3, h4, h5⟩ := a
  refine (h S d.d o ⟨h1, h2, o.lt, o.ltp, o.ne⟩).mono ?_
  rintro en W' ⟨hr, ⟨S2, d2, hs2⟩, o2, y2⟩
  have hlt := o.lt
  have hltp := o.ltp
  have hz := d.bel.size
  have hys := y2.size
  refine ⟨hr, ⟨S2, ⟨d2, fun k hk => (hs2 k hk).elim (d.s0 k) (fun h => by omega), d.bel.trans (y2.to_below (fun k hk => ?_) hz)⟩, o2, fun hh => (hs2 g hh).elim h1 (fun h => by omega), fun hh => (hs2 gp hh).elim h2 (fun h => by omega), h3, h4, fun k hk => ?_⟩, y2.mono (fun k _ hk hb => ?_)⟩
  · rcases hk with h | h | h
    · exact d.s0 k h
    · omega
    · omega
  · obtain ⟨q1, q2, q3, q4, q5⟩ := h5 k hk
    exact ⟨fun hh => (hs2 k hh).elim q1 (fun h => by omega), q2, q3, q4, by omega⟩
  · obtain ⟨q1, q2, q3, q4, q5⟩ := h5 k hb
    rcases hk with h | h | h
    · exact q1 h
    · exact q2 h
    · exact q3 h
theorem UpB.jo (a : UpB Z w0 W g gd gp n p j B) : JO W g gd gp n p.e j := by
  obtain ⟨S, d, o, _⟩ := a
  exact o
theorem UpB.homesC (a : UpB Z w0 W g gd gp n p j B) (ok : p.m.Ok n) : Calls Try.prog 38 #[.pointer (some ⟨g, 0, none⟩)] W (RetV2 W (.int .i64 (j.homes n : Nat))) := by
  obtain ⟨S, d, o, _⟩ := a
  exact jhomes_any o d.d ok
theorem UpB.turnC (a : UpB Z w0 W g gd gp n p j B) (ht : 1 ≤ j.k.turn) : Calls Try.prog 26 #[.pointer (some ⟨g, 0, none⟩)] W (RetW W (.int .u64 ((j.k.turn - 1 : Nat) : Int))) := jturn_any a.jo ht
theorem UpB.readC (a : UpB Z w0 W g gd gp n p j B) (ok : p.m.Ok n) (i : Int) (hi : -9223372036854775808 ≤ i ∧ i ≤ 9223372036854775807) :
    Calls Try.prog 28 #[.pointer (some ⟨g, 0, none⟩), .int .i64 i] W fun en W' => (∃ A q c, en = .returned (.tuple #[.slice A q c, .int .i64 (jrE p n j i)]) ∧ OwnX W' W.heap.size (.slice A q c) (jrS p n j i)) ∧ UpB Z w0 W' g gd gp n (jrP p n j i) j B ∧ Only (fun k => ¬ B k) W W' :=
  a.call fun S d o ap => (jread_any i o d ok hi ap).mono (by
    rintro en W' ⟨A, q, c, he, ho, lj⟩
    exact ⟨⟨A, q, c, he, ho⟩, lj⟩)
theorem UpB.commitC (a : UpB Z w0 W g gd gp n p j B) (ok : p.m.Ok n) (hw : p.m.wrote ≤ 1073720000) (A : Option Addr) (nl cl : Nat) (l : List Pu) (hp : HasPu W A nl l) (hn : nl ≤ 1000) (hdl : ∀ x ∈ l, x.data.length ≤ 1073741824) (hu : j.used ≤ j.k.ring) :
    Calls Try.prog 21 #[.pointer (some ⟨g, 0, none⟩), .slice A nl cl] W fun en W' => en = .returned (.int .i64 (cmt p n j l).e) ∧ UpB Z w0 W' g gd gp n (cmt p n j l).p (cmt p n j l).j B ∧ Only (fun k => ¬ B k) W W' :=
  a.call fun S d o ap => jcommit_any A nl cl l o d ap ok hw hp hn hdl hu
end
end Go.Proofs.Ythfmkdeglceppaa
