/-
  Own work.
-/
import Derived.Test.YthoebjekkfhhgaaGreatQw
set_option linter.unusedVariables false
set_option linter.unusedSimpArgs false
namespace Go.Proofs.YthoebjekkfhhgaaGreat
open Go.RowKit Go.Maps
theorem ckP_powers (p : Pt) (n : Nat) (j : JM) : (ckP p n j).m.powers = p.m.powers := by
 unfold ckP
 split
 · rfl
 · split
   · rfl
   · exact cpP_powers ..
theorem cmt_powers (p : Pt) (n : Nat) (j : JM) (l : List Pu) : (cmt p n j l).p.m.powers = p.m.powers := by
 unfold cmt
 repeat' split
 all_goals first | rfl | exact ckP_powers .. | (rw [stP_powers]; exact ckP_powers ..) | exact stP_powers ..
theorem fmtP_powers (m : RM) (n r : Nat) : (fmtP m n r).m.powers = m.powers := by
 have h : ∀ k, (fmtK ⟨m, 0⟩ n k).m.powers = m.powers := by
  intro k
  induction k with
  | zero => rfl
  | succ k ih =>
    rw [fmtK_succ, Pt.wr_powers]
    split
    · rw [Pt.fl_powers, ih]
    · exact ih
 unfold fmtP Pt.anchor
 rw [Pt.fl_powers, Pt.wr_powers, Pt.fl_powers, h]
theorem SJ.may {p : Pt} {n V T u r : Nat} {j : JM} {H : Nat -> List UInt8} (a : SJ p n V j T u r H) {l : List Pu} (h1 : ∀ x ∈ l, 0 <= x.i /\ x.i < (n - 2 - r : Nat) /\ x.data.length = 512) (h2 : (l.map Pu.i).Nodup) (h3 : l.length <= 40) (h4 : l.length < r) : lstE n j l = 0 := by
 obtain ⟨b1, b2, _⟩ := a.homes
 have e : lsE (j.homes n) [] l = 0 := by
  rw [b1]
  exact lsE_back _ l [] (fun x hx => ⟨(h1 x hx).1, (h1 x hx).2.1, (h1 x hx).2.2, by simp⟩) h2
 unfold lstE
 rw [e, if_neg (fun h => h rfl), b2, if_neg (by omega)]
theorem HasPu.one {w : World} {A : Option Addr} {n c : Nat} {D : List UInt8} (x : Int) (h : HasB w w.heap.size A n D) (hc : n <= c) (hx : -9223372036854775808 <= x /\ x <= 9223372036854775807) : HasPu (w.alloc (.cells #[.int .i64 x, .slice A n c] 152)) (some ⟨w.heap.size, 0, none⟩) 1 [⟨x, D⟩] := by
 have hb : Below w.heap.size w (w.alloc (.cells #[.int .i64 x, .slice A n c] 152)) := (Below.refl _ _).alloc (Nat.le_refl _) _
 have h0 := heap_alloc_new w (.cells #[.int .i64 x, .slice A n c] 152)
 refine ⟨rfl, fun y hy => ?_, fun _ => ⟨w.heap.size, 0, rfl, by simp, fun k y hy => ?_⟩⟩
 · rw [List.mem_singleton] at hy
   subst hy
   exact hx
 · cases k with
   | zero =>
     simp only [List.getElem?_cons_zero, Option.some.injEq] at hy
     subst hy
     exact ⟨A, n, c, cell_of_row _ _ 0 _ _ (0, 0) h0, cell_of_row _ _ 1 _ _ (0, 0) h0, h.on hb, hc⟩
   | succ k => simp at hy
theorem infoPuZ : ∃ ie z, Tryz.prog.info? 152 = some ie /\ ie.zero = some z /\ ie.size = 2 /\ ie.bytes = 32 /\ z.cells.size = 2 := by
 have h : (Tryz.prog.info? 152).map (fun i => (i.size, i.bytes, i.zero.map (fun z => z.cells.size))) = some (2, 32, some 2) := by kernel_rfl
 cases hi : Tryz.prog.info? 152 with
 | none => rw [hi] at h; cases h
 | some ie =>
   rw [hi] at h
   simp only [Option.map_some, Option.some.injEq, Prod.mk.injEq] at h
   cases hz : ie.zero with
   | none => rw [hz] at h; simp at h
   | some z =>
     rw [hz] at h
     simp only [Option.map_some, Option.some.injEq] at h
     exact ⟨ie, z, rfl, hz, h.1, h.2.1, h.2.2⟩
structure PuR where
 i : Int
 A : Option Addr
 q : Nat
 c : Nat
 d : List UInt8
def puC (x : PuR) : List Value := [.int .i64 x.i, .slice x.A x.q x.c]
def puL (l : List PuR) : List Pu := l.map fun x => ⟨x.i, x.d⟩
structure PRow (w : World) (base : Nat) (v : Value) (l : List PuR) : Prop where
 own : w.ownsRow base 152 2 v l.length (l.flatMap puC)
 dat : ∀ x ∈ l, HasB w w.heap.size x.A x.q x.d /\ x.q <= x.c /\ ∀ a, x.A = some a -> v.ownBlock ≠ some a.block
 rng : ∀ x ∈ l, -9223372036854775808 <= x.i /\ x.i <= 9223372036854775807
theorem puFlat_len (l : List PuR) : (l.flatMap puC).length = l.length * 2 := by
 induction l with
 | nil => rfl
 | cons x l ih => rw [List.flatMap_cons, List.length_append, ih]; show 2 + l.length * 2 = (l.length + 1) * 2; omega
theorem flat_at : ∀ (l : List PuR) (k : Nat) (x : PuR), l[k]? = some x -> (l.flatMap puC)[k * 2]? = some (.int .i64 x.i) /\ (l.flatMap puC)[k * 2 + 1]? = some (.slice x.A x.q x.c)
 | [], _, _, h => by simp at h
 | y :: l, 0, x, h => by
   simp only [List.getElem?_cons_zero, Option.some.injEq] at h
   subst h
   exact ⟨rfl, rfl⟩
 | y :: l, k + 1, x, h => by
   have := flat_at l k x (by simpa using h)
   rw [List.flatMap_cons, show (k + 1) * 2 = k * 2 + 2 by omega]
   exact this
section
variable {w w' : World} {base n c : Nat} {A : Option Addr} {v : Value} {l : List PuR}
theorem PRow.nil (w : World) (base : Nat) : PRow w base (.slice none 0 0) [] := ⟨⟨rfl, .inl ⟨rfl, rfl⟩⟩, fun x hx => absurd hx (by simp), fun x hx => absurd hx (by simp)⟩
theorem PRow.form (h : PRow w base v l) : (v = .slice none 0 0 /\ l = []) \/ ∃ g c cur, v = .slice (some ⟨g, 0, none⟩) l.length c /\ base <= g /\ w.heap[g]? = some (.cells cur 152 (0, 0)) /\ l.length <= c /\ cur.size = c * 2 /\ cur.toList.take (l.length * 2) = l.flatMap puC := by
 rcases h.own.2 with ⟨e, hn⟩ | ⟨g, c, cur, e, hb, hg, hn, hc, hs, ht⟩
 · exact .inl ⟨e, List.eq_nil_of_length_eq_zero hn⟩
 · exact .inr ⟨g, c, cur, e, hb, hg, hn, hs, ht⟩
theorem PRow.slice (h : PRow w base v l) : ∃ A c, v = .slice A l.length c := by
 rcases h.form with ⟨e, rfl⟩ | ⟨g, c, cur, e, _⟩
 · exact ⟨_, _, e⟩
 · exact ⟨_, _, e⟩
theorem PRow.len (h : PRow w base (.slice A n c) l) : n = l.length := by
 obtain ⟨A', c', e⟩ := h.slice
 simp only [Value.slice.injEq] at e
 exact e.2.1
theorem PRow.row (h : PRow w base (.slice A n c) l) (hn : 0 < n) : ∃ g cur, A = some ⟨g, 0, none⟩ /\ base <= g /\ w.heap[g]? = some (.cells cur 152 (0, 0)) /\ l.length * 2 <= cur.size /\ cur.toList.take (l.length * 2) = l.flatMap puC /\ n <= c /\ cur.size = c * 2 := by
 have hl := h.len
 rcases h.form with ⟨e, rfl⟩ | ⟨g, c', cur, e, hb, hg, hc, hs, ht⟩
 · simp at hl; omega
 · simp only [Value.slice.injEq] at e
   obtain ⟨rfl, -, rfl⟩ := e
   exact ⟨g, cur, rfl, hb, hg, by omega, ht, by omega, hs⟩
theorem cur_at {cur : Array Value} {xs : List Value} {m j : Nat} {u : Value} (h : cur.toList.take m = xs) (hu : xs[j]? = some u) : cur[j]? = some u := by
 rw [<- h, List.getElem?_take] at hu
 split at hu
 · simpa using hu
 · cases hu
theorem PRow.cells {g : Nat} (h : PRow w base (.slice (some ⟨g, 0, none⟩) n c) l) {k : Nat} {x : PuR} (hx : l[k]? = some x) : w.cell? ⟨g, k * 2, none⟩ = some (.int .i64 x.i) /\ w.cell? ⟨g, k * 2 + 1, none⟩ = some (.slice x.A x.q x.c) := by
 have hk := (List.getElem?_eq_some_iff.1 hx).1
 obtain ⟨g', cur, e, _, hg, hs, ht, _⟩ := h.row (by rw [h.len]; omega)
 simp only [Option.some.injEq, Addr.mk.injEq, and_true] at e
 subst e
 obtain ⟨h1, h2⟩ := flat_at l k x hx
 exact ⟨(cell_of_row w g _ _ _ (0, 0) hg).trans (cur_at ht h1), (cell_of_row w g _ _ _ (0, 0) hg).trans (cur_at ht h2)⟩
theorem PRow.below (h : PRow w base v l) (hb : Below w.heap.size w w') : PRow w' base v l := by
 refine ⟨⟨h.own.1, ?_⟩, fun x hx => ?_, h.rng⟩
 · rcases h.own.2 with h2 | ⟨g, c, cur, e, h3, hg, r⟩
   · exact .inl h2
   · exact .inr ⟨g, c, cur, e, h3, by rw [hb.block g (Array.getElem?_eq_some_iff.1 hg).1]; exact hg, r⟩
 · obtain ⟨h1, h2, h3⟩ := h.dat x hx
   exact ⟨h1.on hb, h2, h3⟩
theorem PRow.puts (h : PRow w base (.slice A n c) l) : HasPu w A n (puL l) := by
 have hl := h.len
 refine ⟨by rw [hl]; unfold puL; rw [List.length_map], fun y hy => ?_, fun hn => ?_⟩
 · obtain ⟨x, hx, rfl⟩ := List.mem_map.1 hy
   exact h.rng x hx
 · obtain ⟨g, cur, rfl, _, hg, _⟩ := h.row hn
   refine ⟨g, 0, rfl, (Array.getElem?_eq_some_iff.1 hg).1, fun k y hy => ?_⟩
   unfold puL at hy
   rw [List.getElem?_map] at hy
   cases hx : l[k]? with
   | none => rw [hx] at hy; cases hy
   | some x =>
     rw [hx] at hy
     simp only [Option.map_some, Option.some.injEq] at hy
     subst hy
     obtain ⟨h1, h2⟩ := h.cells hx
     obtain ⟨d1, d2, _⟩ := h.dat x (List.mem_of_getElem? hx)
     exact ⟨x.A, x.q, x.c, by rw [Nat.zero_add]; exact h1, by rw [Nat.zero_add]; exact h2, d1, d2⟩
theorem HasB.far {w w' : World} {A : Option Addr} {q : Nat} {d : List UInt8} {S : Nat -> Prop} (h : HasB w w.heap.size A q d) (ho : Only S w w') (hS : ∀ a, A = some a -> ¬ S a.block) : HasB w' w'.heap.size A q d := by
 refine ⟨h.1, fun hq => ?_⟩
 obtain ⟨g, o, e, hg, hc⟩ := h.2 hq
 exact ⟨g, o, e, Nat.lt_of_lt_of_le hg ho.size, fun i b hb => cell_only ho (hS _ e) (hc i b hb)⟩
theorem PRow.set {g k : Nat} {y : PuR} (h : PRow w base (.slice (some ⟨g, 0, none⟩) n c) l) (hk : k < l.length) (cur : Array Value) (hg : w.heap[g]? = some (.cells cur 152 (0, 0)))
 (hd : HasB w w.heap.size y.A y.q y.d) (hc : y.q <= y.c) (hf : ∀ a, y.A = some a -> g ≠ a.block) (hr : -9223372036854775808 <= y.i /\ y.i <= 9223372036854775807) :
 PRow (w.setRow g (cur.toList.take (k * 2) ++ puC y ++ cur.toList.drop (k * 2 + 2)).toArray) base (.slice (some ⟨g, 0, none⟩) n c) (l.set k y) := by
 obtain ⟨g', cur', e, hb, hg', hs, ht, hnc, hcs⟩ := h.row (by rw [h.len]; omega)
 simp only [Option.some.injEq, Addr.mk.injEq, and_true] at e
 subst e
 rw [hg] at hg'
 simp only [Option.some.injEq, Obj.cells.injEq, and_true] at hg'
 subst hg'
 have ho : Only (fun j => j = g) w (w.setRow g (cur.toList.take (k * 2) ++ puC y ++ cur.toList.drop (k * 2 + 2)).toArray) := (Only.refl _ w).setRow (S := fun j => j = g) rfl _
 have hlen := h.len
 have hcl : cur.toList.length = cur.size := Array.length_toList
 refine ⟨⟨by rw [puFlat_len, List.length_set], .inr ⟨g, c, _, by rw [List.length_set, <- hlen], hb, setRow_heap w g _ _ _ _ hg, by rw [List.length_set, <- hlen]; exact hnc, ?_, ?_, ?_⟩⟩, fun x hx => ?_, fun x hx => ?_⟩
 · have := h.own.2
   rcases this with ⟨e, _⟩ | ⟨g2, c2, cur2, e, _, _, _, hm, _⟩
   · cases e
   · simp only [Value.slice.injEq] at e
     rw [e.2.2]
     exact hm
 · rw [List.size_toArray, List.length_append, List.length_append, List.length_take, List.length_drop, hcl]
   show min (k * 2) cur.size + 2 + (cur.size - (k * 2 + 2)) = c * 2
   omega
 · rw [List.length_set]
   show (cur.toList.take (k * 2) ++ puC y ++ cur.toList.drop (k * 2 + 2)).take (l.length * 2) = _
   apply List.ext_getElem?
   intro j
   rw [List.getElem?_take]
   have hpl : (puC y).length = 2 := rfl
   have htl : (cur.toList.take (k * 2)).length = k * 2 := by rw [List.length_take]; omega
   have key : ∀ (l : List PuR) (k j : Nat) (y : PuR), k < l.length -> ((l.set k y).flatMap puC)[j]? = if j < k * 2 then (l.flatMap puC)[j]? else if j < k * 2 + 2 then (puC y)[j - k * 2]? else (l.flatMap puC)[j]? := by
    intro l
    induction l with
    | nil => intro k j y hk; simp at hk
    | cons a l ih =>
      intro k j y hk
      cases k with
      | zero =>
        rw [List.set_cons_zero, List.flatMap_cons, List.flatMap_cons]
        by_cases hj : j < 2
        · rw [if_neg (by omega), if_pos (by omega), List.getElem?_append_left (by show j < 2; exact hj)]
          rfl
        · rw [if_neg (by omega), if_neg (by omega), List.getElem?_append_right (by show 2 <= j; omega), List.getElem?_append_right (by show 2 <= j; omega)]
          rfl
      | succ k =>
        rw [List.set_cons_succ, List.flatMap_cons, List.flatMap_cons]
        by_cases hj : j < 2
        · rw [List.getElem?_append_left (by show j < 2; exact hj), if_pos (by omega), List.getElem?_append_left (by show j < 2; exact hj)]
        · have hp : (puC a).length = 2 := rfl
          rw [List.getElem?_append_right (by omega), List.getElem?_append_right (by omega), hp, ih k (j - 2) y (by rw [List.length_cons] at hk; omega)]
          by_cases h1 : j - 2 < k * 2
          · rw [if_pos h1, if_pos (by omega)]
          · have e1 : ¬ j < (k + 1) * 2 := by omega
            rw [if_neg h1, if_neg e1]
            by_cases h2 : j - 2 < k * 2 + 2
            · have e2 : j < (k + 1) * 2 + 2 := by omega
              rw [if_pos h2, if_pos e2, show j - 2 - k * 2 = j - (k + 1) * 2 by omega]
            · have e2 : ¬ j < (k + 1) * 2 + 2 := by omega
              rw [if_neg h2, if_neg e2]
   rw [key l k j y hk]
   by_cases hj0 : j < l.length * 2
   · rw [if_pos hj0]
     have hold : cur.toList[j]? = (l.flatMap puC)[j]? := by rw [<- ht, List.getElem?_take, if_pos hj0]
     by_cases h1 : j < k * 2
     · rw [if_pos h1, List.append_assoc, List.getElem?_append_left (by omega), List.getElem?_take, if_pos h1, hold]
     · rw [if_neg h1]
       by_cases h2 : j < k * 2 + 2
       · rw [if_pos h2, List.getElem?_append_left (by rw [List.length_append]; omega), List.getElem?_append_right (by omega), htl]
       · rw [if_neg h2, List.getElem?_append_right (by rw [List.length_append]; omega), List.length_append, htl, hpl, List.getElem?_drop, show k * 2 + 2 + (j - (k * 2 + 2)) = j by omega, hold]
   · rw [if_neg hj0, if_neg (by omega), if_neg (by omega), List.getElem?_eq_none (by rw [puFlat_len]; omega)]
 · rcases List.mem_or_eq_of_mem_set hx with hx | hx
   · obtain ⟨d1, d2, d3⟩ := h.dat x hx
     exact ⟨d1.far ho (fun a ha hh => d3 a ha (by show some g = _; rw [hh])), d2, d3⟩
   · subst hx
     exact ⟨hd.far ho (fun a ha hh => hf a ha hh.symm), hc, fun a ha hh => hf a ha (by injection hh)⟩
 · rcases List.mem_or_eq_of_mem_set hx with hx | hx
   · exact h.rng x hx
   · subst hx; exact hr
end
theorem wp_app_pu {w : World} {ops : Array Oper} {rest : List Oper} {o : Oper} {a : Act} {Q : Exit -> Act -> World -> Prop} (hgd : o.guard = none) (s x : Operand)
 (ho : o.op = .call { callee := .builtin .append, args := #[s, x], argTypes := #[95, 95] })
 (base : Nat) (v : Value) (l : List PuR) (hev : a.eval s = v) (hown : PRow w base v l) (g m : Nat) (y : PuR) (hx : a.eval x = .slice (some ⟨g, 0, none⟩) 1 m) (hg : w.heap[g]? = some (.cells (puC y).toArray 152 (0, 0)))
 (hd : HasB w w.heap.size y.A y.q y.d) (hc : y.q <= y.c) (hf : ∀ b, y.A = some b -> v.ownBlock ≠ some b.block /\ b.block < w.heap.size) (hr : -9223372036854775808 <= y.i /\ y.i <= 9223372036854775807)
 (hlt : ∀ x ∈ l, ∀ b, x.A = some b -> b.block < w.heap.size)
 (hlen : l.length <= 100000) (hbase : base <= w.heap.size)
 (h : ∀ A' n' c' w', PRow w' base (.slice A' n' c') (l ++ [y]) -> Below base w w' -> (∀ x ∈ l ++ [y], ∀ b, x.A = some b -> b.block < w'.heap.size) -> wpList Tryz.prog ops Q rest (a.put o.dst (.slice A' n' c')) w') : wpList Tryz.prog ops Q (o :: rest) a w := by
 obtain ⟨ie, z, hie, hz, hs, hby, hzs⟩ := infoPuZ
 have hlt2 : ∀ k, v.ownBlock = some k -> base <= k /\ k < w.heap.size := World.ownsRow.lt hown.own
 refine wpList_append_own_at w hgd s x _ ho base _ ie z 2 32 Tryz.underlying95 hie hz hs hby hzs (by decide) v l.length (l.flatMap puC) hev hown.own ⟨g, 0, none⟩ 1 m (puC y) hx rfl (fun j u hu => ?_) ?_ (by simp only [maxLen]; omega) (by omega) hbase ?_
 · rw [Addr.add_lit, Nat.zero_add, cell_of_row w g j _ _ (0, 0) hg]
   simpa using hu
 · intro u hu
   simp only [puC, List.mem_cons, List.not_mem_nil, or_false] at hu
   rcases hu with rfl | rfl <;> rfl
 · intro v' w' hown' hgr _ hat
   have ho := Only.grownO hgr
   have e : (l.flatMap puC) ++ puC y = (l ++ [y]).flatMap puC := by simp
   have hsz := ho.size
   have hdat : ∀ x ∈ l ++ [y], HasB w w.heap.size x.A x.q x.d /\ x.q <= x.c /\ (∀ b, x.A = some b -> v.ownBlock ≠ some b.block /\ b.block < w.heap.size) := by
    intro x hx
    rcases List.mem_append.1 hx with hx | hx
    · obtain ⟨d1, d2, d3⟩ := hown.dat x hx
      exact ⟨d1, d2, fun b hb => ⟨d3 b hb, hlt x hx b hb⟩⟩
    · rw [List.mem_singleton] at hx
      subst hx
      exact ⟨hd, hc, hf⟩
   have hP : PRow w' base v' (l ++ [y]) := by
    refine ⟨?_, fun x hx => ?_, fun x hx => ?_⟩
    · rw [<- e, List.length_append]
      exact hown'
    · obtain ⟨d1, d2, d3⟩ := hdat x hx
      refine ⟨d1.far ho (fun b hb hh => (d3 b hb).1 hh), d2, fun b hb hh => ?_⟩
      rcases hat with h1 | h1
      · rw [h1] at hh; exact (d3 b hb).1 hh
      · rw [h1] at hh
        injection hh with hh
        have := (d3 b hb).2
        omega
    · rcases List.mem_append.1 hx with hx | hx
      · exact hown.rng x hx
      · rw [List.mem_singleton] at hx; subst hx; exact hr
   obtain ⟨A', c', rfl⟩ := hP.slice
   exact h A' _ c' w' hP ((Below.refl base w).grown hgr hbase fun k hk => (hlt2 k hk).1) (fun x hx b hb => by have := ((hdat x hx).2.2 b hb).2; omega)
theorem wpList_store_partL {P : Program} {ops : Array Oper} {rest : List Oper} {o : Oper} {a : Act} {w : World} {Q : Exit -> Act -> World -> Prop} (hgd : o.guard = none) (ty : TypeId) (x y : Operand) (ho : o.op = .store ty x y)
 (g off : Nat) (cells : Array Value) (hx : a.eval x = .pointer (some ⟨g, off, none⟩)) (hy : a.eval y = .agg cells)
 (t : TypeId) (cur : Array Value) (hg : w.heap[g]? = some (.cells cur t (0, 0))) (hi : (P.info? ty).map (·.size) = some cells.size) (hfit : off + cells.size <= cur.size) (h1 : ∀ v ∈ cells.toList, v.oneCell' = true)
 (h : wpList P ops Q rest (a.put o.dst undef) (w.setRow g (cur.toList.take off ++ cells.toList ++ cur.toList.drop (off + cells.size)).toArray)) : wpList P ops Q (o :: rest) a w := by
 refine BigFrame.wpList_want (by simp [Region.wanted, hgd]) fun K hK => ?_
 unfold Oper.wp execOp
 simp only [ho, hx, hy, Instr.storeAt, Instr.sureAddr, Sem.run_bind, Sem.run_pure, Result.andThen_ok, run_storeVar_part w g off t ty cur cells hg hi hfit h1]
 exact hK _ _ h
def UpB (Z : DK) (w0 W : World) (g gd gp n : Nat) (p : Pt) (j : JM) (B : Nat -> Prop) : Prop :=
 ∃ S, OwD Z w0 W gd S n p.m /\ JO W g gd gp n p.e j /\ ¬ S g /\ ¬ S gp /\ w0.heap.size <= g /\ w0.heap.size <= gp /\ ∀ k, B k -> ¬ S k /\ k ≠ g /\ k ≠ gp /\ w0.heap.size <= k /\ k < W.heap.size
section
variable {Z : DK} {w0 W W' : World} {g gd gp n V T u r : Nat} {p p' : Pt} {j j' : JM} {H : Nat -> List UInt8} {S B B' : Nat -> Prop}
theorem UpB.up (a : UpB Z w0 W g gd gp n p j B) : UpJ Z w0 W g gd gp n p j := by
 obtain ⟨S, d, o, h1, h2, h3, h4, _⟩ := a
 exact ⟨S, d, o, h1, h2, h3, h4⟩
theorem UpJ.b (a : UpJ Z w0 W g gd gp n p j) : UpB Z w0 W g gd gp n p j (fun _ => False) := by
 obtain ⟨S, d, o, h1, h2, h3, h4⟩ := a
 exact ⟨S, d, o, h1, h2, h3, h4, fun k hk => hk.elim⟩
theorem UpB.own (a : UpB Z w0 W g gd gp n p j B) (ho : Only (fun k => B k \/ W.heap.size <= k) W W') (hB : ∀ k, B' k -> B k \/ (W.heap.size <= k /\ k < W'.heap.size)) : UpB Z w0 W' g gd gp n p j B' := by
 obtain ⟨S, d, o, h1, h2, h3, h4, h5⟩ := a
 have hz := d.bel.size
 have hs := ho.size
 have hlt := o.lt
 have hltp := o.ltp
 refine ⟨S, ⟨Z.only d.d ho (fun k hk hh => hh.elim (fun h => (h5 k h).1 hk) (fun h => by have := d.slt k hk; omega)), d.s0, d.bel.trans (ho.to_below (fun k hk => hk.elim (fun h => (h5 k h).2.2.2.1) (fun h => by omega)) hz)⟩, o.only ho (fun hh => hh.elim (fun h => (h5 g h).2.1 rfl) (fun h => by omega)) (fun hh => hh.elim (fun h => (h5 gp h).2.2.1 rfl) (fun h => by omega)), h1, h2, h3, h4, fun k hk => ?_⟩
 rcases hB k hk with h | h
 · obtain ⟨q1, q2, q3, q4, q5⟩ := h5 k h
   exact ⟨q1, q2, q3, q4, by omega⟩
 · exact ⟨fun hh => by have := d.slt k hh; omega, by omega, by omega, by omega, h.2⟩
theorem UpB.below (a : UpB Z w0 W g gd gp n p j B) (hb : Below W.heap.size W W') : UpB Z w0 W' g gd gp n p j B := a.own (Only.of_below hb (Nat.le_refl _)) (fun k hk => .inl hk)
theorem UpB.less (a : UpB Z w0 W g gd gp n p j B) (h : ∀ k, B' k -> B k) : UpB Z w0 W g gd gp n p j B' := a.own (Only.refl _ _) (fun k hk => .inl (h k hk))
theorem UpB.left (a : UpB Z w0 W g gd gp n p j B) (h : ∀ S, Z.D W gd S n p.m -> JO W g gd gp n p.e j -> Apart W g gp S -> LeftJ Z W g gd gp n S p' j' W') : UpB Z w0 W' g gd gp n p' j' B /\ Only (fun k => ¬ B k) W W' := by
 obtain ⟨S, d, o, h1, h2, h3, h4, h5⟩ := a
 obtain ⟨⟨S2, d2, hs2⟩, o2, y2⟩ := h S d.d o ⟨h1, h2, o.lt, o.ltp, o.ne⟩
 have hlt := o.lt
 have hltp := o.ltp
 have hz := d.bel.size
 have hys := y2.size
 refine ⟨⟨S2, ⟨d2, fun k hk => (hs2 k hk).elim (d.s0 k) (fun h => by omega), d.bel.trans (y2.to_below (fun k hk => ?_) hz)⟩, o2, fun hh => (hs2 g hh).elim h1 (fun h => by omega), fun hh => (hs2 gp hh).elim h2 (fun h => by omega), h3, h4, fun k hk => ?_⟩, y2.mono (fun k _ hk hb => ?_)⟩
 · rcases hk with h | h | h
   · exact d.s0 k h
   · omega
   · omega
 · obtain ⟨q1, q2, q3, q4, q5⟩ := h5 k hk
   exact ⟨fun hh => (hs2 k hh).elim q1 (fun h => by omega), q2, q3, q4, by omega⟩
 · obtain ⟨q1, q2, q3, q4, q5⟩ := h5 k hb
   rcases hk with h | h | h
   · exact q1 h
   · exact q2 h
   · exact q3 h
theorem UpB.read (a : UpB Z w0 W g gd gp n p j B) (b : SJ p n V j T u r H) (hV : V <= 1073000000) (i : Nat) (hi : i < n - 2 - r) :
 Calls Tryz.prog 125 #[.pointer (some ⟨g, 0, none⟩), .int .i64 (i : Int)] W fun en W' => ∃ A q c, en = .returned (.tuple #[.slice A q c, .int .i64 0]) /\ OwnX W' W.heap.size (.slice A q c) (H i) /\ UpB Z w0 W' g gd gp n p j B /\ Only (fun k => ¬ B k) W W' := by
 obtain ⟨r1, r2, r3⟩ := b.read hV hi
 obtain ⟨_, ok, _, hw, _, _⟩ := b.jok hV
 have hn2 := ok.n2
 have a' := a
 obtain ⟨S, d, o, h1, h2, h3, h4, h5⟩ := a'
 refine (jread_any (i : Int) o d.d ok (by omega) ⟨h1, h2, o.lt, o.ltp, o.ne⟩).mono ?_
 rintro en W' ⟨A, q, c, he, ho, lj⟩
 rw [r1] at he
 rw [r2] at ho
 rw [r3] at lj
 obtain ⟨⟨S2, d2, hs2⟩, o2, y2⟩ := lj
 have hlt := o.lt
 have hltp := o.ltp
 have hz := d.bel.size
 have hys := y2.size
 refine ⟨A, q, c, he, ho, ⟨S2, ⟨d2, fun k hk => (hs2 k hk).elim (d.s0 k) (fun h => by omega), d.bel.trans (y2.to_below (fun k hk => ?_) hz)⟩, o2, fun hh => (hs2 g hh).elim h1 (fun h => by omega), fun hh => (hs2 gp hh).elim h2 (fun h => by omega), h3, h4, fun k hk => ?_⟩, y2.mono (fun k _ hk hb => ?_)⟩
 · rcases hk with h | h | h
   · exact d.s0 k h
   · omega
   · omega
 · obtain ⟨q1, q2, q3, q4, q5⟩ := h5 k hk
   exact ⟨fun hh => (hs2 k hh).elim q1 (fun h => by omega), q2, q3, q4, by omega⟩
 · obtain ⟨q1, q2, q3, q4, q5⟩ := h5 k hb
   rcases hk with h | h | h
   · exact q1 h
   · exact q2 h
   · exact q3 h
end
theorem OwnV.set {E : TypeId} {w : World} {base n c g k : Nat} {hs : List Value} {u : Value} (h : OwnV E w base (.slice (some ⟨g, 0, none⟩) n c) hs) (hk : k < hs.length) (hu : u.oneCell' = true) : OwnV E (w.setCell ⟨g, k, none⟩ u) base (.slice (some ⟨g, 0, none⟩) n c) (hs.set k u) := by
 rcases h.form with ⟨e, rfl⟩ | ⟨g', c', cur, e, hb, hlt, hg, h1, h2, h3, h4⟩
 · simp at hk
 · simp only [Value.slice.injEq, Option.some.injEq, Addr.mk.injEq, and_true] at e
   obtain ⟨rfl, rfl, rfl⟩ := e
   have hs' := heap_setCell_same w g k cur E u hg
   have hl : cur.toList.length = c := by rw [Array.length_toList]; exact h3
   refine ⟨by rw [Nat.mul_one], .inr ⟨g, c, _, by rw [List.length_set], hb, hs', by rw [List.length_set]; exact h1, h2, by rw [Array.size_setIfInBounds, h3, Nat.mul_one], ?_⟩⟩
   rw [Nat.mul_one, List.length_set, Array.toList_setIfInBounds]
   apply List.ext_getElem?
   intro j
   rw [List.getElem?_take, List.getElem?_set, List.getElem?_set]
   have hj : ∀ j, j < hs.length -> cur.toList[j]? = hs[j]? := fun j hj => by rw [<- h4, List.getElem?_take, if_pos hj]
   by_cases hjl : j < hs.length
   · rw [if_pos hjl]
     by_cases hkj : k = j
     · rw [if_pos hkj, if_pos hkj, if_pos (by omega), if_pos hk]
     · rw [if_neg hkj, if_neg hkj]
       exact hj j hjl
   · rw [if_neg hjl, if_neg (by omega), List.getElem?_eq_none (by omega)]
theorem UpB.commit {Z : DK} {w0 W : World} {g gd gp n V T u r : Nat} {p : Pt} {j : JM} {H : Nat -> List UInt8} {B : Nat -> Prop} (a : UpB Z w0 W g gd gp n p j B) (b : SJ p n V j T u r H) (hV : V <= 1073000000) (A : Option Addr) (nl cl : Nat) (l : List Pu) (hp : HasPu W A nl l) (hn : nl <= 1000) (hdl : ∀ x ∈ l, x.data.length <= 1073741824) :
 Calls Tryz.prog 41 #[.pointer (some ⟨g, 0, none⟩), .slice A nl cl] W fun en W' => en = .returned (.int .i64 (cmt p n j l).e) /\ UpB Z w0 W' g gd gp n (cmt p n j l).p (cmt p n j l).j B /\ Only (fun k => ¬ B k) W W' := by
 obtain ⟨b1, b2, b3, b4, b5, b6, b7, b8, b9, b10, b11, b12⟩ := b.homes
 obtain ⟨_, ok, _, hw, _, _⟩ := b.jok hV
 obtain ⟨S, d, o, h1, h2, h3, h4, h5⟩ := a
 refine (jcommit_any A nl cl l o d.d ⟨h1, h2, o.lt, o.ltp, o.ne⟩ ok (by omega) hp hn hdl (by rw [b2, b4]; exact b9)).mono ?_
 rintro en W' ⟨he, lj⟩
 obtain ⟨⟨S2, d2, hs2⟩, o2, y2⟩ := lj
 have hlt := o.lt
 have hltp := o.ltp
 have hz := d.bel.size
 have hys := y2.size
 refine ⟨he, ⟨S2, ⟨d2, fun k hk => (hs2 k hk).elim (d.s0 k) (fun h => by omega), d.bel.trans (y2.to_below (fun k hk => ?_) hz)⟩, o2, fun hh => (hs2 g hh).elim h1 (fun h => by omega), fun hh => (hs2 gp hh).elim h2 (fun h => by omega), h3, h4, fun k hk => ?_⟩, y2.mono (fun k _ hk hb => ?_)⟩
 · rcases hk with h | h | h
   · exact d.s0 k h
   · omega
   · omega
 · obtain ⟨q1, q2, q3, q4, q5⟩ := h5 k hk
   exact ⟨fun hh => (hs2 k hh).elim q1 (fun h => by omega), q2, q3, q4, by omega⟩
 · obtain ⟨q1, q2, q3, q4, q5⟩ := h5 k hb
   rcases hk with h | h | h
   · exact q1 h
   · exact q2 h
   · exact q3 h
def OnB (Z : DK) (w0 W : World) (gd n : Nat) (m : RM) (B : Nat -> Prop) : Prop :=
 ∃ S, OwD Z w0 W gd S n m /\ ∀ k, B k -> ¬ S k /\ w0.heap.size <= k /\ k < W.heap.size
section
variable {Z : DK} {w0 W W' : World} {g gd gp n V T u r : Nat} {p p' : Pt} {j j' : JM} {m : RM} {H : Nat -> List UInt8} {S B B' : Nat -> Prop}
theorem OnB.bel (a : OnB Z w0 W gd n m B) : Below w0.heap.size w0 W := by
 obtain ⟨S, d, _⟩ := a
 exact d.bel
theorem OnB.on (a : OnB Z w0 W gd n m B) : OnD Z w0 W gd n m := by
 obtain ⟨S, d, _⟩ := a
 exact ⟨S, d⟩
theorem OnD.b (a : OnD Z w0 W gd n m) : OnB Z w0 W gd n m (fun _ => False) := by
 obtain ⟨S, d⟩ := a
 exact ⟨S, d, fun k hk => hk.elim⟩
theorem OnB.own (a : OnB Z w0 W gd n m B) (ho : Only (fun k => B k \/ W.heap.size <= k) W W') (hB : ∀ k, B' k -> B k \/ (W.heap.size <= k /\ k < W'.heap.size)) : OnB Z w0 W' gd n m B' := by
 obtain ⟨S, d, h⟩ := a
 have hz := d.bel.size
 have hs := ho.size
 refine ⟨S, ⟨Z.only d.d ho (fun k hk hh => hh.elim (fun h' => (h k h').1 hk) (fun h' => by have := d.slt k hk; omega)), d.s0, d.bel.trans (ho.to_below (fun k hk => hk.elim (fun h' => (h k h').2.1) (fun h' => by omega)) hz)⟩, fun k hk => ?_⟩
 rcases hB k hk with h' | h'
 · obtain ⟨q1, q2, q3⟩ := h k h'
   exact ⟨q1, q2, by omega⟩
 · exact ⟨fun hh => by have := d.slt k hh; omega, by omega, h'.2⟩
theorem OnB.below (a : OnB Z w0 W gd n m B) (hb : Below W.heap.size W W') : OnB Z w0 W' gd n m B := a.own (Only.of_below hb (Nat.le_refl _)) (fun k hk => .inl hk)
theorem UpB.lt (a : UpB Z w0 W g gd gp n p j B) : ∀ k, B k -> w0.heap.size <= k /\ k < W.heap.size := by
 obtain ⟨S, d, o, h1, h2, h3, h4, h5⟩ := a
 exact fun k hk => (h5 k hk).2.2.2
theorem OnB.lt (a : OnB Z w0 W gd n m B) : ∀ k, B k -> w0.heap.size <= k /\ k < W.heap.size := by
 obtain ⟨S, d, h⟩ := a
 exact fun k hk => (h k hk).2
theorem OnB.step {e : Ending} {v : Value} {m' : RM} (a : OnB Z w0 W gd n m B) (h : ∀ S, Z.D W gd S n m -> (∀ k, B k -> ¬ S k) -> Left2 Z.D W gd S n v m' e W') : e = .returned v /\ OnB Z w0 W' gd n m' B /\ Only (fun k => ¬ B k) W W' := by
 obtain ⟨S, d, hb⟩ := a
 obtain ⟨he, ⟨S', d', hs⟩, ho⟩ := h S d.d (fun k hk => (hb k hk).1)
 have hz := d.bel.size
 have hsz := ho.size
 refine ⟨he, ⟨S', ⟨d', fun k hk => (hs k hk).elim (d.s0 k) (fun h' => by omega), d.bel.trans (ho.to_below d.s0 hz)⟩, fun k hk => ?_⟩, ho.mono (fun k _ hk hb' => (hb k hb').1 hk)⟩
 obtain ⟨q1, q2, q3⟩ := hb k hk
 exact ⟨fun hh => (hs k hh).elim q1 (fun h' => by omega), q2, by omega⟩
theorem OnB.open_ (a : OnB Z w0 W gd n p.m B) (b : DS p n V T r H) (hV : V + n + 2 <= 1073000000) :
 Calls Tryz.prog 69 #[.pointer (some ⟨gd, 0, none⟩)] W fun en W' => ∃ g gp p' j', en = .returned (.tuple #[.pointer (some ⟨g, 0, none⟩), .int .i64 0]) /\ UpB Z w0 W' g gd gp n p' j' B /\ SJ p' n (V + n + 1) j' T 0 r H /\ p'.m.powers = p.m.powers /\ W.heap.size <= g /\ Only (fun k => ¬ B k) W W' := by
 obtain ⟨S, dw, hB⟩ := a
 obtain ⟨j, u, sj⟩ := b
 obtain ⟨c1, c2⟩ := sj.check hV
 obtain ⟨s, t0, p0, L, f, d, rfl, rfl, rfl, hH⟩ := sj
 obtain ⟨k1, k2, k3⟩ := jof_k p.m n s t0 p0 r L d.pr
 have hpe : p = ⟨p.m, 0⟩ := by obtain ⟨m, e⟩ := p; have := d.q.e; simp only at this; rw [this]
 have hre : ∀ i : Nat, i < 2 -> (⟨p.m, 0⟩ : Pt).m.readE n (i : Int) = 0 := fun i hi => d.q.rE (by have := d.q.ok.n1; omega)
 have hE : (nwP ⟨p.m, 0⟩ n 2).e = 0 := by rw [nwP_ok rfl 2 hre]
 have s2 := d.s2
 have t2 := d.t2
 have us := d.us
 have r2 := d.r2
 have hul := usedL_le L
 have hK : nwM ⟨p.m, 0⟩ n 2 = ⟨s, t0, p0, r⟩ := by
  rw [nwM_ok rfl 2 hre]
  exact new_log d.q d.s1 (by omega) d.t1 (by omega) d.pr d.r1 d.r2 d.r3 d.an (fun _ => d.ot.tag (d.q.len (by have := d.q.ok.n1; omega)) d.s1 (by omega))
 have ring : (jop ⟨s, t0, p0, r⟩ p.m n).k = ⟨s, t0, p0, r⟩ := rfl
 have hend : tagOf (f (rp ((p0 + usedL L) % r) r 0)) ≠ 2 * (t0 + L.length) + 1 := by
  have hlt := Nat.mod_lt ((p0 + usedL L) % r + 0) (show 0 < r by have := d.r1; omega)
  unfold rp
  exact (d.old _ hlt).tag (d.q.len (by have := d.r3; omega)) (Nat.le_refl _)
 obtain ⟨hr1, hr2⟩ := rep_log d.q L (jop ⟨s, t0, p0, r⟩ p.m n) 2000 d.r1 d.r3 d.pr (by show t0 + L.length < _; omega) d.ok d.lg hend (by omega)
 have okJ : (jop ⟨s, t0, p0, r⟩ p.m n).Ok n := ⟨by show s < _; omega, by show t0 < _; omega, d.r1, d.r2, d.r3, d.pr, d.q.ok.pw, Nat.zero_le _, List.length_replicate, fun x hx => .inl (by rw [List.eq_of_mem_replicate hx]; rfl)⟩
 have q := open_go (Z := Z) (w := W) (S := S) dw.d d.q.ok 0 hE ⟨s, t0, p0, r⟩ hK rfl (by show s ≠ 0; have := d.s1; omega) d.q.live okJ (by show t0 <= _; omega) 2000 (by omega) (by rw [hr1]; exact hr2) (by have := d.q.wr; omega)
 rw [hr1] at q
 refine q.mono ?_
 rintro en W' ⟨_, h2⟩
 have hj : takes (jop ⟨s, t0, p0, r⟩ p.m n) L = jof p.m n s t0 p0 r L := rfl
 rw [hj, <- hpe] at h2
 obtain ⟨g, gp, he, S2, d2, hs2, o2, y2, n1, n2, n3, n4⟩ := h2 c1
 have hz := dw.bel.size
 have hsz := y2.size
 refine ⟨g, gp, _, _, he, ⟨S2, ⟨d2, fun k hk => (hs2 k hk).elim (dw.s0 k) (fun h => Nat.le_trans dw.bel.size h), dw.bel.trans (y2.to_below dw.s0 dw.bel.size)⟩, o2, n1, n2, Nat.le_trans dw.bel.size n3, Nat.le_trans dw.bel.size n4, fun k hk => ?_⟩, c2, ?_, n3, y2.mono (fun k _ hk hb' => (hB k hb').1 hk)⟩
 · obtain ⟨q1, q2, q3⟩ := hB k hk
   exact ⟨fun hh => (hs2 k hh).elim q1 (fun h' => by omega), by omega, by omega, q2, by omega⟩
 · unfold ckP
   split
   · rfl
   · split
     · rfl
     · exact cpP_powers ..
theorem UpB.turn (a : UpB Z w0 W g gd gp n p j B) (b : SJ p n V j T u r H) :
 Calls Tryz.prog 40 #[.pointer (some ⟨g, 0, none⟩)] W (RetW W (.int .u64 ((T - 1 : Nat) : Int))) := turn_up a.up b
theorem SJ.more {V' : Nat} (a : SJ p n V j T u r H) (h : V <= V') : SJ p n V' j T u r H := by
 obtain ⟨s, t0, p0, L, f, d, x1, x2, x3, x4⟩ := a
 exact ⟨s, t0, p0, L, f, ⟨d.q.more h, d.calm, d.r1, d.r2, d.r3, d.s1, Nat.le_trans d.s2 h, d.t1, Nat.le_trans d.t2 h, d.pr, d.an, d.ot, d.us, d.lg, d.ok, d.old⟩, x1, x2, x3, x4⟩
theorem SJ.congr {H' : Nat -> List UInt8} (a : SJ p n V j T u r H) (h : ∀ i, i < n - 2 - r -> H i = H' i) : SJ p n V j T u r H' := by
 obtain ⟨s, t0, p0, L, f, d, x1, x2, x3, x4⟩ := a
 exact ⟨s, t0, p0, L, f, d, x1, x2, x3, fun i hi => (x4 i hi).trans (h i hi)⟩
end
section
variable {Z : DK} {w0 W W' : World} {g gd gp n : Nat} {p p' : Pt} {j j' : JM} {B : Nat -> Prop}
theorem UpB.call {f : Nat} {args : Array Value} {R : Ending -> World -> Prop} (a : UpB Z w0 W g gd gp n p j B)
 (h : ∀ S, Z.D W gd S n p.m -> JO W g gd gp n p.e j -> Apart W g gp S -> Calls Tryz.prog f args W fun en W' => R en W' /\ LeftJ Z W g gd gp n S p' j' W') :
 Calls Tryz.prog f args W fun en W' => R en W' /\ UpB Z w0 W' g gd gp n p' j' B /\ Only (fun k => ¬ B k) W W' := by
 obtain ⟨S, d, o, h1, h2, h3, h4, h5⟩ := a
 refine (h S d.d o ⟨h1, h2, o.lt, o.ltp, o.ne⟩).mono ?_
 rintro en W' ⟨hr, ⟨S2, d2, hs2⟩, o2, y2⟩
 have hlt := o.lt
 have hltp := o.ltp
 have hz := d.bel.size
 have hys := y2.size
 refine ⟨hr, ⟨S2, ⟨d2, fun k hk => (hs2 k hk).elim (d.s0 k) (fun h => by omega), d.bel.trans (y2.to_below (fun k hk => ?_) hz)⟩, o2, fun hh => (hs2 g hh).elim h1 (fun h => by omega), fun hh => (hs2 gp hh).elim h2 (fun h => by omega), h3, h4, fun k hk => ?_⟩, y2.mono (fun k _ hk hb => ?_)⟩
 · rcases hk with h | h | h
   · exact d.s0 k h
   · omega
   · omega
 · obtain ⟨q1, q2, q3, q4, q5⟩ := h5 k hk
   exact ⟨fun hh => (hs2 k hh).elim q1 (fun h => by omega), q2, q3, q4, by omega⟩
 · obtain ⟨q1, q2, q3, q4, q5⟩ := h5 k hb
   rcases hk with h | h | h
   · exact q1 h
   · exact q2 h
   · exact q3 h
theorem UpB.jo (a : UpB Z w0 W g gd gp n p j B) : JO W g gd gp n p.e j := by
 obtain ⟨S, d, o, _⟩ := a
 exact o
theorem UpB.homesC (a : UpB Z w0 W g gd gp n p j B) (ok : p.m.Ok n) : Calls Tryz.prog 126 #[.pointer (some ⟨g, 0, none⟩)] W (RetV2 W (.int .i64 (j.homes n : Nat))) := by
 obtain ⟨S, d, o, _⟩ := a
 exact jhomes_any o d.d ok
theorem UpB.turnC (a : UpB Z w0 W g gd gp n p j B) (ht : 1 <= j.k.turn) : Calls Tryz.prog 40 #[.pointer (some ⟨g, 0, none⟩)] W (RetW W (.int .u64 ((j.k.turn - 1 : Nat) : Int))) := jturn_any a.jo ht
theorem UpB.commitC (a : UpB Z w0 W g gd gp n p j B) (ok : p.m.Ok n) (hw : p.m.wrote <= 1073720000) (A : Option Addr) (nl cl : Nat) (l : List Pu) (hp : HasPu W A nl l) (hn : nl <= 1000) (hdl : ∀ x ∈ l, x.data.length <= 1073741824) (hu : j.used <= j.k.ring) :
 Calls Tryz.prog 41 #[.pointer (some ⟨g, 0, none⟩), .slice A nl cl] W fun en W' => en = .returned (.int .i64 (cmt p n j l).e) /\ UpB Z w0 W' g gd gp n (cmt p n j l).p (cmt p n j l).j B /\ Only (fun k => ¬ B k) W W' :=
 a.call fun S d o ap => jcommit_any A nl cl l o d ap ok hw hp hn hdl hu
end
end Go.Proofs.YthoebjekkfhhgaaGreat
