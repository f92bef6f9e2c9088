/-
  Own work. Bytes in memory: a slice that reads as a list of bytes, a row of the call's own that holds a list of bytes, append and conversion over them.
-/
import Derived.Test.YtpnmcdpekfibjaaRows
import Derived.WalkKit
import Derived.ProofKit
import Derived.OpenShut
import Derived.ShutString
import Derived.ChangeOld
import Derived.Below
import Derived.Laws.BytesArg
import Derived.Lib.Hide
import Derived.Lib.Zigzag
import Derived.WalkSpells
namespace Go.Proofs.Ytpnmcdpekfibjaa
open Go.RowKit
set_option linter.unusedVariables false

theorem infoU8 : (Try.prog.info? 5).map (fun i => (i.zero, i.size, i.bytes)) = some (some (.int .u8 0), 1, 1) := by kernel_rfl

/-- The cells of a list of bytes. -/
def cellsB (l : List UInt8) : List Value := l.map fun b => Value.int .u8 (b.toNat : Int)

theorem cellsB_length (l : List UInt8) : (cellsB l).length = l.length := by simp [cellsB]
theorem cellsB_append (l m : List UInt8) : cellsB (l ++ m) = cellsB l ++ cellsB m := by simp [cellsB]
theorem cellsB_one (l : List UInt8) : ∀ u ∈ cellsB l, u.oneCell' = true := by
  intro u hu
  obtain ⟨b, _, rfl⟩ := List.mem_map.1 hu
  rfl
theorem cellsB_at {l : List UInt8} {j : Nat} {u : Value} (h : (cellsB l)[j]? = some u) : ∃ b, l[j]? = some b ∧ u = .int .u8 (b.toNat : Int) := by
  simp only [cellsB, List.getElem?_map, Option.map_eq_some_iff] at h
  obtain ⟨b, hb, rfl⟩ := h
  exact ⟨b, hb, rfl⟩

/-- The slice at A, n long, reads as l; its cells lie below block B. -/
def HasB (w : World) (B : Nat) (A : Option Addr) (n : Nat) (l : List UInt8) : Prop :=
  n = l.length ∧ (0 < n → ∃ g o, A = some ⟨g, o, none⟩ ∧ g < B ∧ ∀ i b, l[i]? = some b → w.cell? ⟨g, o + i, none⟩ = some (.int .u8 (b.toNat : Int)))

/-- A row of the call's own, from block 'base' on, that holds l. -/
def OwnB (w : World) (base : Nat) (v : Value) (l : List UInt8) : Prop := w.ownsRow base 5 1 v l.length (cellsB l)

section
variable {w w' : World} {B B' base n c : Nat} {A : Option Addr} {v : Value} {l m : List UInt8}

theorem HasB.nil (w : World) (B : Nat) (A : Option Addr) : HasB w B A 0 [] := ⟨rfl, fun h => absurd h (by simp)⟩
theorem HasB.len (h : HasB w B A n l) : n = l.length := h.1
theorem HasB.keep (h : HasB w B A n l) (hk : ∀ p : Addr, p.block < B → w'.cell? p = w.cell? p) : HasB w' B A n l := ⟨h.1, fun hl => by
  obtain ⟨g, o, e, hg, hc⟩ := h.2 hl
  exact ⟨g, o, e, hg, fun i b hb => (hk _ hg).trans (hc i b hb)⟩⟩
theorem HasB.more (h : HasB w B A n l) (hB : B ≤ B') : HasB w B' A n l := ⟨h.1, fun hl => by
  obtain ⟨g, o, e, hg, hc⟩ := h.2 hl
  exact ⟨g, o, e, by omega, hc⟩⟩
theorem HasB.below (h : HasB w B A n l) (hb : Below B w w') : HasB w' B A n l := h.keep fun _ hp => hb.cell hp
theorem HasB.alloc (h : HasB w B A n l) (hB : B ≤ w.heap.size) (o : Obj) : HasB (w.alloc o) B A n l := h.keep fun p hp => World.cell?_alloc_lt w o p (by omega)
/-- Behind a call that turns nothing that was there. -/
theorem HasB.on (h : HasB w w.heap.size A n l) (hb : Below w.heap.size w w') : HasB w' w'.heap.size A n l := (h.below hb).more hb.size
/-- A window. -/
theorem HasB.window {g o k s : Nat} (h : HasB w B (some ⟨g, o, none⟩) n l) (hk : k + s ≤ n) {A' : Option Addr} {m : Nat} (hm : m = s) (hA : 0 < s → A' = some ⟨g, o + k, none⟩) : HasB w B A' m ((l.drop k).take s) := by
  have hl := h.len
  subst hm
  refine ⟨by rw [List.length_take, List.length_drop]; omega, fun hs => ?_⟩
  obtain ⟨g', o', e, hg, hc⟩ := h.2 (by omega)
  simp only [Option.some.injEq, Addr.mk.injEq, and_true] at e
  obtain ⟨rfl, rfl⟩ := e
  refine ⟨g, o + k, hA hs, hg, fun i b hb => ?_⟩
  rw [Nat.add_assoc]
  refine hc (k + i) b ?_
  rw [List.getElem?_take] at hb
  split at hb
  · rw [List.getElem?_drop] at hb; exact hb
  · cases hb
/-- One new cell. -/
theorem HasB.one (w : World) (x : Int) (b : UInt8) (t : TypeId) (hx : x = (b.toNat : Int)) : HasB (w.alloc (.cells #[.int .u8 x] t)) (w.heap.size + 1) (some ⟨w.heap.size, 0, none⟩) 1 [b] :=
  ⟨rfl, fun _ => ⟨w.heap.size, 0, rfl, by omega, fun i b' hb' => by
    have hi : i = 0 := by
      rcases Nat.eq_zero_or_pos i with h | h
      · exact h
      · rw [List.getElem?_eq_none (by simp; omega)] at hb'
        cases hb'
    subst hi
    simp only [List.getElem?_cons_zero, Option.some.injEq] at hb'
    subst hb' hx
    rw [cell_of_row _ _ _ _ t (0, 0) (heap_alloc_new w _)]
    rfl⟩⟩

/-- A new row. -/
theorem HasB.row (w : World) (l : List UInt8) (t : TypeId) : HasB (w.alloc (.cells (cellsB l).toArray t)) (w.alloc (.cells (cellsB l).toArray t)).heap.size (some ⟨w.heap.size, 0, none⟩) l.length l :=
  ⟨rfl, fun _ => ⟨w.heap.size, 0, rfl, by simp, fun i b hb => by
    rw [cell_of_row _ _ _ _ t (0, 0) (heap_alloc_new w _)]
    simp [cellsB, hb]⟩⟩

theorem OwnB.nil (w : World) (base : Nat) : OwnB w base (.slice none 0 0) [] := ⟨by simp [cellsB], .inl ⟨rfl, rfl⟩⟩

theorem OwnB.empty (w : World) : OwnB (w.alloc (.cells #[] 5)) w.heap.size (.slice (some ⟨w.heap.size, 0, none⟩) 0 0) [] :=
  ⟨by simp [cellsB], .inr ⟨w.heap.size, 0, #[], rfl, Nat.le_refl _, heap_alloc_new w _, Nat.le_refl _, by simp, by simp, by simp [cellsB]⟩⟩
/-- The shape of what is owned. -/
theorem OwnB.form (h : OwnB w base v l) : (v = .slice none 0 0 ∧ l = []) ∨ ∃ g c cur, v = .slice (some ⟨g, 0, none⟩) l.length c ∧ base ≤ g ∧ g < w.heap.size ∧ w.heap[g]? = some (.cells cur 5 (0, 0)) ∧ l.length ≤ c ∧ c ≤ maxLen ∧ cur.size = c ∧ cur.toList.take l.length = cellsB l := by
  rcases h.2 with ⟨e, hn⟩ | ⟨g, c, cur, e, hb, hg, hn, hc, hs, ht⟩
  · exact .inl ⟨e, List.eq_nil_of_length_eq_zero hn⟩
  · exact .inr ⟨g, c, cur, e, hb, (Array.getElem?_eq_some_iff.1 hg).1, hg, hn, hc, by simpa using hs, by simpa using ht⟩

theorem OwnB.slice (h : OwnB w base v l) : ∃ A n c, v = .slice A n c ∧ n ≤ c ∧ c ≤ maxLen ∧ HasB w w.heap.size A n l := by
  rcases h.form with ⟨e, rfl⟩ | ⟨g, c, cur, e, hb, hlt, hg, hn, hc, hs, ht⟩
  · exact ⟨none, 0, 0, e, by simp, by simp, HasB.nil _ _ _⟩
  · refine ⟨_, _, c, e, hn, hc, rfl, fun _ => ⟨g, 0, rfl, hlt, fun i b hib => ?_⟩⟩
    have := World.ownsRow.cells (w := w) h (g := g) (by rw [e]; rfl) i (.int .u8 (b.toNat : Int)) (by simp [cellsB, hib])
    simpa [Addr.add_lit] using this

theorem OwnB.has (h : OwnB w base (.slice A n c) l) : HasB w w.heap.size A n l := by
  obtain ⟨A', n', c', e, _, _, h3⟩ := h.slice
  simp only [Value.slice.injEq] at e
  obtain ⟨rfl, rfl, rfl⟩ := e
  exact h3
theorem OwnB.len (h : OwnB w base (.slice A n c) l) : n = l.length := h.has.1
theorem OwnB.caps (h : OwnB w base (.slice A n c) l) : n ≤ c ∧ c ≤ maxLen := by
  obtain ⟨A', n', c', e, h1, h2, _⟩ := h.slice
  simp only [Value.slice.injEq] at e
  obtain ⟨rfl, rfl, rfl⟩ := e
  exact ⟨h1, h2⟩

/-- A byte is written. -/
theorem OwnB.set_ {g k : Nat} {x : Int} {b : UInt8} (h : OwnB w base (.slice (some ⟨g, 0, none⟩) n c) l) (hx : x = (b.toNat : Int)) :
    OwnB (w.setCell ⟨g, k, none⟩ (.int .u8 x)) base (.slice (some ⟨g, 0, none⟩) n c) (l.set k b) := by
  have hl := h.len
  subst hl hx
  have := (World.ownsRow.stored (w := w) h k (.int .u8 (b.toNat : Int))).1
  unfold OwnB
  rw [List.length_set]
  have e : cellsB (l.set k b) = (cellsB l).set k (.int .u8 (b.toNat : Int)) := by simp [cellsB, List.map_set]
  rw [e]
  exact this
theorem OwnB.frozen {g : Nat} (h : OwnB w base (.slice (some ⟨g, 0, none⟩) n c) l) (k : Nat) : w.frozen? ⟨g, k, none⟩ = false := by
  have hl := h.len
  subst hl
  exact World.ownsRow.frozenAt (w := w) h k
/-- What is owned and not empty lies at the head of a block. -/
theorem OwnB.head (h : OwnB w base (.slice A n c) l) (hn : 0 < n) : ∃ g, A = some ⟨g, 0, none⟩ ∧ base ≤ g ∧ g < w.heap.size ∧ ∀ i b, l[i]? = some b → w.cell? ⟨g, i, none⟩ = some (.int .u8 (b.toNat : Int)) := by
  have hl := h.len
  obtain ⟨g', o', e1, _, hcell⟩ := h.has.2 hn
  rcases h.form with ⟨e0, rfl⟩ | ⟨g, c2, cur, e0, hbg, hlt, _⟩
  · simp at hl; omega
  · simp only [Value.slice.injEq] at e0
    obtain ⟨rfl, -, -⟩ := e0
    simp only [Option.some.injEq, Addr.mk.injEq, and_true] at e1
    obtain ⟨rfl, rfl⟩ := e1
    exact ⟨g, rfl, hbg, hlt, fun i b hb => by simpa using hcell i b hb⟩

theorem OwnB.kept {row : Option Nat} (h : OwnB w base v l) (hg : w.grownBy w' row) (hne : v.ownBlock = none ∨ v.ownBlock ≠ row) : OwnB w' base v l := World.ownsRow.kept h hg hne
theorem OwnB.alloc (h : OwnB w base v l) (o : Obj) : OwnB (w.alloc o) base v l := World.ownsRow.alloc h o
theorem OwnB.lt (h : OwnB w base v l) : ∀ k, v.ownBlock = some k → base ≤ k ∧ k < w.heap.size := World.ownsRow.lt h
theorem OwnB.below {w' : World} (h : OwnB w base v l) (hb : Below w.heap.size w w') : OwnB w' base v l := by
  refine ⟨h.1, ?_⟩
  rcases h.2 with h2 | ⟨g, c, cur, e, h3, hg, r⟩
  · exact .inl h2
  · exact .inr ⟨g, c, cur, e, h3, by rw [hb.block g (Array.getElem?_eq_some_iff.1 hg).1]; exact hg, r⟩
theorem OwnB.less {base' : Nat} (h : OwnB w base v l) (hb : base' ≤ base) : OwnB w base' v l := by
  refine ⟨h.1, ?_⟩
  rcases h.2 with h2 | ⟨g, c, cur, e, h3, r⟩
  · exact .inl h2
  · exact .inr ⟨g, c, cur, e, by omega, r⟩

theorem below_of_grown (h : OwnB w base v l) (hg : w.grownBy w' v.ownBlock) (hb : base ≤ w.heap.size) : Below base w w' :=
  (Below.refl base w).grown hg hb fun k hk => (h.lt k hk).1
end

section
variable {P : Program} {w : World}

/-- append onto a row of the call's own, whatever the source's shape. -/
theorem run_app (ty : TypeId) (ht : P.underlying 29 = some (.slice 5)) (hi0 : (P.info? 5).map (fun i => (i.zero, i.size, i.bytes)) = some (some (.int .u8 0), 1, 1))
    (base : Nat) (v : Value) (l m : List UInt8) (hown : OwnB w base v l) (B : Nat) (A : Option Addr) (k c : Nat) (hm' : HasB w B A k m) (hlen : l.length + m.length ≤ 140737488355328) (hbase : base ≤ w.heap.size) :
    ∃ A' n' c' w', (Builtin.append_ #[29, 29] ty #[v, .slice A k c]).run P w = .ok (.slice A' n' c') w' ∧ OwnB w' base (.slice A' n' c') (l ++ m) ∧ w.grownBy w' v.ownBlock := by
  obtain ⟨rfl, hm⟩ := hm'
  obtain ⟨i, hi, hz, hs, hby⟩ := info_parts hi0
  have key : ∃ v' w', (Builtin.append_ #[29, 29] ty #[v, .slice A m.length c]).run P w = .ok v' w' ∧ OwnB w' base v' (l ++ m) ∧ w.grownBy w' v.ownBlock := by
    by_cases h0 : m.length = 0
    · have hm0 : m = [] := List.eq_nil_of_length_eq_zero h0
      subst hm0
      rcases hown.form with ⟨rfl, rfl⟩ | ⟨g, cc, cur, rfl, hbg, hlt, hg, hn, hc, hcs, ht'⟩
      · refine ⟨.slice none 0 0, w, ?_, OwnB.nil w base, World.grownBy.refl _ _⟩
        rcases A with _ | ad
        · simp [Builtin.append_, run_underlying ht, sizeOf, typeInfo, hi, Builtin.lenOf, Builtin.firstCells]
        · simp [Builtin.append_, run_underlying ht, sizeOf, typeInfo, hi, Builtin.lenOf, Builtin.firstCells, loadCells, loadCellsFrom]
      · rcases A with _ | ad
        · refine ⟨_, w, ?_, by simpa using hown, World.grownBy.refl _ _⟩
          simp [Builtin.append_, run_underlying ht, sizeOf, typeInfo, hi, Builtin.lenOf, Builtin.firstCells, hn, storeCells]
        · obtain ⟨v', w', hr, h2, h3, _⟩ := run_append_own (P := P) w base 29 ty 5 i (.int .u8 0) 1 1 ht hi hz hs hby rfl (by decide) _ l.length (cellsB l) hown ad 0 c [] rfl (by simp) (by simp)
            (by simp only [maxLen]; omega) (by omega) hbase
          exact ⟨v', w', hr, by simpa [OwnB] using h2, h3⟩
    · obtain ⟨g, o, rfl, hgB, hcell⟩ := hm (by omega)
      obtain ⟨v', w', hr, h2, h3, _⟩ := run_append_own (P := P) w base 29 ty 5 i (.int .u8 0) 1 1 ht hi hz hs hby rfl (by decide) v l.length (cellsB l) hown ⟨g, o, none⟩ m.length c (cellsB m)
        (by simp [cellsB_length]) (fun j u hu => by
          obtain ⟨b, hb, rfl⟩ := cellsB_at hu
          rw [Addr.add_lit]
          exact hcell j b hb) (cellsB_one m) (by simp only [maxLen]; omega) (by omega) hbase
      refine ⟨v', w', hr, ?_, h3⟩
      unfold OwnB
      rw [cellsB_append, List.length_append]
      exact h2
  obtain ⟨v', w', hr, h2, h3⟩ := key
  obtain ⟨A', n', c', rfl, _⟩ := h2.slice
  exact ⟨A', n', c', w', hr, h2, h3⟩

theorem wp_app {ops : Array Oper} {rest : List Oper} {o : Oper} {a : Act} {Q : Exit → Act → World → Prop} (hgd : o.guard = none) (s x : Operand)
    (ho : o.op = .call { callee := .builtin .append, args := #[s, x], argTypes := #[29, 29] })
    (ht : P.underlying 29 = some (.slice 5)) (hi0 : (P.info? 5).map (fun i => (i.zero, i.size, i.bytes)) = some (some (.int .u8 0), 1, 1))
    (base : Nat) (v : Value) (l m : List UInt8) (hs : a.eval s = v) (hown : OwnB w base v l) (B : Nat) (A : Option Addr) (n c : Nat) (hx : a.eval x = .slice A n c) (hm : HasB w B A n m)
    (hlen : l.length + m.length ≤ 140737488355328) (hbase : base ≤ w.heap.size)
    (h : ∀ A' n' c' w', OwnB w' base (.slice A' n' c') (l ++ m) → w.grownBy w' v.ownBlock → Below base w w' → wpList P ops Q rest (a.put o.dst (.slice A' n' c')) w') : wpList P ops Q (o :: rest) a w := by
  refine wpList_plain hgd fun K hK => ?_
  obtain ⟨A', n', c', w', hrun, h2, h3⟩ := run_app (P := P) (w := w) o.type ht hi0 base v l m hown B A n c hm hlen hbase
  unfold Oper.wp execOp
  simp only [ho, resolve, invoke, builtin, Sem.run_bind, Sem.run_pure, Result.andThen_ok, List.map_toArray, List.map_cons, List.map_nil, hs, hx, hrun]
  exact hK _ _ (h A' n' c' w' h2 h3 (below_of_grown hown h3 hbase))

/-- string(b). -/
theorem run_conv (ht : P.underlying 29 = some (.slice 5)) (he : P.underlying 5 = some (.int .u8)) (hd : P.underlying 9 = some .string) (B : Nat) (A : Option Addr) (n c : Nat) (l : List UInt8) (h' : HasB w B A n l) :
    (convert 29 9 (.slice A n c)).run P w = .ok (.string ⟨l.toArray⟩) w := by
  obtain ⟨rfl, h⟩ := h'
  rcases A with _ | ad
  · have h0 : l.length = 0 := by
      rcases Nat.eq_zero_or_pos l.length with h0 | h0
      · exact h0
      · obtain ⟨g, o, e, _⟩ := h h0
        cases e
    have hl : l = [] := List.eq_nil_of_length_eq_zero h0
    subst hl
    exact run_convert_bytes_nil (P := P) w _ _ ht he _ _ _ hd
  · by_cases h0 : l.length = 0
    · have hl : l = [] := List.eq_nil_of_length_eq_zero h0
      subst hl
      rw [run_convert_bytes_string w _ _ _ _ _ _ ht he hd]
      exact run_bytesToString (P := P) w ad 0 c [] (by simp [loadCells, loadCellsFrom])
    · obtain ⟨g, o, e, _, hc⟩ := h (by omega)
      injection e with e
      subst e
      have hr := run_convert_bytes_arg (P := P) w _ _ ht he g o l.length c (l.map fun b => (b.toNat : Int)) (by simp) (fun i hi => by
        rw [hc i l[i] (List.getElem?_eq_getElem hi)]
        simp [List.getD, hi]) _ hd
      rw [hr]
      simp [strOfNums, Function.comp_def]
end

/-- A slice of bytes that came in reads as some list. -/
theorem has_of_row {w : World} {a : Option Addr} {len cap : Nat} {zs : List Int}
    (h : (a = none ∧ len = 0 ∧ cap = 0 ∧ zs = []) ∨ ∃ x, a = some x ∧ len ≤ cap ∧ cap ≤ maxLen ∧ zs.length = cap ∧ (∀ i, i < zs.length → w.cell? (x.add i) = some (.int .u8 (zs.getD i 0))) ∧ ∀ n ∈ zs, (Lit.int .u8 n).wf = true) :
    ∃ l, HasB w w.heap.size a len l ∧ len ≤ cap ∧ cap ≤ maxLen := by
  rcases h with ⟨rfl, rfl, rfl, rfl⟩ | ⟨x, rfl, h1, h2, h3, hc, hw⟩
  · exact ⟨[], HasB.nil _ _ _, by omega, by simp⟩
  · refine ⟨(zs.take len).map fun z => UInt8.ofNat z.toNat, ⟨by simp; omega, fun hl => ?_⟩, h1, h2⟩
    have c0 := hc 0 (by omega)
    obtain ⟨b, o, s⟩ := x
    have hs : s = none := by
      have := World.cell?_spot c0
      simpa [Addr.add] using this
    subst hs
    refine ⟨b, o, rfl, ?_, fun i u hu => ?_⟩
    · have := World.block_lt_of_cell? w _ c0
      simpa [Addr.add] using this
    · have hi : i < len := by
        have := (List.getElem?_eq_some_iff.1 hu).1
        simp at this
        omega
      have := hc i (by omega)
      rw [Addr.add_lit] at this
      rw [this]
      have hz := hw zs[i] (List.getElem_mem _)
      have hb := bounds_u8 hz
      simp only [List.getElem?_map, List.getElem?_take, if_pos hi, List.getElem?_eq_getElem (show i < zs.length by omega), Option.map_some, Option.some.injEq] at hu
      subst hu
      simp only [List.getD, List.getElem?_eq_getElem (show i < zs.length by omega), Option.getD_some]
      congr 2
      rw [UInt8.toNat_ofNat', Nat.mod_eq_of_lt (by omega)]
      omega

theorem u8_of (n : Nat) : ((UInt8.ofNat n).toNat : Int) = (n : Int) % 256 := by simp
theorem bytes_data {l m : List UInt8} : ((⟨l.toArray⟩ : ByteArray) = ⟨m.toArray⟩) ↔ l = m := by
  constructor
  · intro h
    have := congrArg (fun b : ByteArray => b.data.toList) h
    simpa using this
  · rintro rfl
    rfl
end Go.Proofs.Ytpnmcdpekfibjaa
