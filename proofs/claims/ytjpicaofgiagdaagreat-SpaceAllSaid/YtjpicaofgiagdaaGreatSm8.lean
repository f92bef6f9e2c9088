/-
  Own work. SpaceAll's state: space, the document's two, the row of extents, the operation's box; what each operation leaves.
-/
import Derived.Test.YtjpicaofgiagdaaGreatSq8
namespace Go.Proofs.YtjpicaofgiagdaaGreat
open Go.RowKit Go.Maps
set_option linter.unusedVariables false
set_option linter.unusedSimpArgs false

/-- The box of the operation that is done. -/
def opO (op : Op8R) : Obj := .cells op.cells.toArray 38 (0, 0)
section
variable {W : World} {gb : Nat} {op : Op8R}
theorem bx_c0 (a : W.heap[gb]? = some (opO op)) : W.cell? ⟨gb, 0, none⟩ = some (.int .i64 op.kind) := by rw [cell_of_row _ _ _ _ _ _ a]; rfl
theorem bx_c1 (a : W.heap[gb]? = some (opO op)) : W.cell? ⟨gb, 1, none⟩ = some (.int .i64 op.at_) := by rw [cell_of_row _ _ _ _ _ _ a]; rfl
theorem bx_c2 (a : W.heap[gb]? = some (opO op)) : W.cell? ⟨gb, 2, none⟩ = some (.int .i64 op.n) := by rw [cell_of_row _ _ _ _ _ _ a]; rfl
theorem bx_c3 (a : W.heap[gb]? = some (opO op)) : W.cell? ⟨gb, 3, none⟩ = some (.int .u32 op.v) := by rw [cell_of_row _ _ _ _ _ _ a]; rfl
theorem px_c0 {x y : Int} {T : TypeId} (a : W.heap[gb]? = some (.cells (P2 x y).toArray T (0, 0))) : W.cell? ⟨gb, 0, none⟩ = some (.int .i64 x) := by rw [cell_of_row _ _ _ _ _ _ a]; rfl
theorem px_c1 {x y : Int} {T : TypeId} (a : W.heap[gb]? = some (.cells (P2 x y).toArray T (0, 0))) : W.cell? ⟨gb, 1, none⟩ = some (.int .i64 y) := by rw [cell_of_row _ _ _ _ _ _ a]; rfl
theorem load_i8 {i : Nat} {x : Int} (h : W.cell? ⟨gb, i, none⟩ = some (.int .i64 x)) : (loadVar 3 ⟨gb, i, none⟩).run Tryz.prog W = .ok (.int .i64 x) W := by
  simp [loadVar, isAgg, run_underlying Tryz.underlying3, go_sem, h]
end
theorem T2.less {Z : DK} {w0 W : World} {g gd gp gt n V r q : Nat} {F C : Nat → List UInt8} {E E' : Nat → Prop} (a : T2 Z w0 W g gd gp gt n V r q F C E) (h : ∀ k, E' k → E k) : T2 Z w0 W g gd gp gt n V r q F C E' := by
  obtain ⟨D, q', h1, t, hd⟩ := a
  exact ⟨D, q', h1, t.less h, hd⟩
theorem infoP2 : (Tryz.prog.info? 43).map (fun i => (i.size, i.bytes, i.zero.map (fun z => z.cells.size))) = some (2, 16, some 2) := by kernel_rfl
/-- The row of extents has grown. -/
theorem M8.app {w W W' : World} {gs go : Nat} {l lo : List Bool} {rs ro : List Nat} {v v' : Value} {rows rows' : List (List Value)} {E : Nat → Prop} (a : M8 w W gs go l rs lo ro v rows E) (hE : ∀ k, E k → k < W.heap.size)
    (o : OwnM 43 2 W' w.heap.size v' rows') (ho : Only (fun k => v.ownBlock = some k ∨ W.heap.size ≤ k) W W') (hv : ∀ k, v'.ownBlock = some k → v.ownBlock = some k ∨ W.heap.size ≤ k) :
    M8 w W' gs go l rs lo ro v' rows' (fun k => E k ∨ v'.ownBlock = some k) := by
  obtain ⟨⟨gr, gor, c, co, s1, s2, _, ⟨e1, e2, e3, e4⟩, ev, x1, x2, x3, x4⟩, ls, rl⟩ := a
  have no : ∀ k, E k → (∀ j, v.ownBlock = some j → j ≠ k) → ¬ (v.ownBlock = some k ∨ W.heap.size ≤ k) := fun k hk hn h => h.elim (fun h => hn k h rfl) (fun h => by have := hE k hk; omega)
  have n1 := no gs e1 (fun j hj => (ev j hj).2.1)
  have n2 := no gr e2 (fun j hj => (ev j hj).2.2.1)
  have n3 := no go e3 (fun j hj => (ev j hj).2.2.2.1)
  have n4 := no gor e4 (fun j hj => (ev j hj).2.2.2.2)
  refine ⟨⟨gr, gor, c, co, s1.only ho n1 n2, s2.only ho n3 n4, o, ⟨.inl e1, .inl e2, .inl e3, .inl e4⟩, fun k hk => ⟨.inr hk, ?_, ?_, ?_, ?_⟩, x1, x2, x3, x4⟩, ls, rl⟩
  · intro h; exact n1 (h ▸ hv k hk)
  · intro h; exact n2 (h ▸ hv k hk)
  · intro h; exact n3 (h ▸ hv k hk)
  · intro h; exact n4 (h ▸ hv k hk)
/-- The state within a round. -/
structure S8 (Z : DK) (w W : World) (g gd gp gt n V q gs go gb : Nat) (F C : Nat → List UInt8) (E : Nat → Prop) (l : List Bool) (rs : List Nat) (lo : List Bool) (ro : List Nat) (v : Value) (rows : List (List Value)) (bo : Obj) : Prop where
  t : T2 Z w W g gd gp gt n V 16 q F C (fun k => E k ∨ k = gb)
  m : M8 w W gs go l rs lo ro v rows E
  b : W.heap[gb]? = some bo
  nb : ¬ E gb
section
variable {Z : DK} {w W W' : World} {g gd gp gt n V q gs go gb : Nat} {F C : Nat → List UInt8} {E : Nat → Prop} {l lo : List Bool} {rs ro : List Nat} {v : Value} {rows : List (List Value)} {bo : Obj} {b' : List UInt8}
theorem S8.lt (a : S8 Z w W g gd gp gt n V q gs go gb F C E l rs lo ro v rows bo) : ∀ k, E k → k < W.heap.size := fun k hk => (a.t.lt k (.inl hk)).2
theorem S8.blt (a : S8 Z w W g gd gp gt n V q gs go gb F C E l rs lo ro v rows bo) : gb < W.heap.size := (Array.getElem?_eq_some_iff.1 a.b).1
theorem S8.wle (a : S8 Z w W g gd gp gt n V q gs go gb F C E l rs lo ro v rows bo) : w.heap.size ≤ W.heap.size := a.t.up.size
theorem S8.tstep {gt' V' q' : Nat} {F' C' : Nat → List UInt8} (a : S8 Z w W g gd gp gt n V q gs go gb F C E l rs lo ro v rows bo) (t : T2 Z w W' g gd gp gt' n V' 16 q' F' C' (fun k => E k ∨ k = gb)) (y : Only (fun k => ¬ (E k ∨ k = gb)) W W') :
    S8 Z w W' g gd gp gt' n V' q' gs go gb F' C' E l rs lo ro v rows bo := ⟨t, a.m.only y (fun k hk h => h (.inl hk)), (y.block gb a.blt (fun h => h (.inr rfl))).trans a.b, a.nb⟩
theorem S8.mstep {l' : List Bool} {rs' : List Nat} (a : S8 Z w W g gd gp gt n V q gs go gb F C E l rs lo ro v rows bo) (m : M8 w W' gs go l' rs' lo ro v rows E) (y : Only E W W') :
    S8 Z w W' g gd gp gt n V q gs go gb F C E l' rs' lo ro v rows bo := ⟨a.t.add (y.mono (fun k _ hk => .inl (.inl hk))) (fun k hk => .inl hk), m, (y.block gb a.blt a.nb).trans a.b, a.nb⟩
theorem S8.drew (a : S8 Z w W g gd gp gt n V q gs go gb F C E l rs lo ro v rows bo) : S8 Z w W.drew g gd gp gt n V q gs go gb F C E l rs lo ro v rows bo :=
  ⟨a.t.add (Only.refl _ W).drew (fun k hk => .inl hk), a.m.only (S := fun _ => False) (Only.refl _ W).drew (fun _ _ h => h), a.b, a.nb⟩
/-- The document's row says what the bitmap says, and its numbers are the roots. -/
structure Al8 (n : Nat) (F : Nat → List UInt8) (l : List Bool) (rs : List Nat) : Prop where
  us : Us8 l (F 1)
  len : l.length = n - 2 - 16
  rs : rs = roots (F 0)
theorem Al8.upd1 (a : Al8 n F l rs) {l' : List Bool} (hl : l'.length = l.length) (hu : Us8 l' b') : Al8 n (upd F 1 b') l' rs := ⟨hu, hl.trans a.len, a.rs⟩
theorem S8.take (a : S8 Z w W g gd gp gt n V q gs go gb F C E l rs lo ro v rows bo) (e : Al8 n F l rs) (hV : V ≤ 1073000000) (hq : q < 1073741824) {z : Int} (hz : Bd z) :
    Calls Tryz.prog 19 #[.pointer (some ⟨gt, 0, none⟩), .int .i64 z] W fun en W' => ∃ x f, en = .returned (.tuple #[.int .i64 x, .int .i64 f]) ∧ Bd x ∧ (∃ b', S8 Z w W' g gd gp gt n V (q + 1) gs go gb (upd F 1 b') C E l rs lo ro v rows bo ∧
      Calls Tryz.prog 20 #[.pointer (some ⟨gs, 0, none⟩), .int .i64 z] W' fun e2 W2 => e2 = .returned (.tuple #[.int .i64 x, .int .i64 f]) ∧ ∃ l', S8 Z w W2 g gd gp gt n V (q + 1) gs go gb (upd F 1 b') C E l' rs lo ro v rows bo ∧ Al8 n (upd F 1 b') l' rs) := by
  have sz := a.t.sz
  refine (a.t.take hV hq z hz).mono ?_
  rintro en W' ⟨x, f, b', rfl, ht, t', y⟩
  have a' := a.tstep t' y
  refine ⟨x, f, rfl, ht.bd sz.2.1, b', a', ?_⟩
  refine (a'.m.rtake e.us (by rw [e.len]; exact sz.2.1) (sz.2.2 1 (by omega)) hz (by rw [e.len]; exact ht)).mono ?_
  rintro e2 W2 ⟨rfl, ⟨l', hl', m', hu⟩, y2⟩
  exact ⟨rfl, l', a'.mstep m' y2, e.upd1 hl' hu⟩
theorem S8.free (a : S8 Z w W g gd gp gt n V q gs go gb F C E l rs lo ro v rows bo) (e : Al8 n F l rs) (hV : V ≤ 1073000000) (hq : q < 1073741824) {s z : Int} (hs : Bd s) (hz : Bd z) :
    Calls Tryz.prog 21 #[.pointer (some ⟨gt, 0, none⟩), .int .i64 s, .int .i64 z] W fun en W' => ∃ f, en = .returned (.int .i64 f) ∧ (∃ b', S8 Z w W' g gd gp gt n V (q + 1) gs go gb (upd F 1 b') C E l rs lo ro v rows bo ∧
      ∀ X, S8 Z w X g gd gp gt n V (q + 1) gs go gb (upd F 1 b') C E l rs lo ro v rows bo → Calls Tryz.prog 22 #[.pointer (some ⟨gs, 0, none⟩), .int .i64 s, .int .i64 z] X fun e2 W2 => e2 = .returned (.int .i64 f) ∧ ∃ l', S8 Z w W2 g gd gp gt n V (q + 1) gs go gb (upd F 1 b') C E l' rs lo ro v rows bo ∧ Al8 n (upd F 1 b') l' rs) := by
  have sz := a.t.sz
  refine (a.t.free hV hq s z hs hz).mono ?_
  rintro en W' ⟨f, b', rfl, ht, t', y⟩
  refine ⟨f, rfl, b', a.tstep t' y, fun X a' => ?_⟩
  refine (a'.m.rfree e.us (by rw [e.len]; exact sz.2.1) (sz.2.2 1 (by omega)) hs hz (by rw [e.len]; exact ht)).mono ?_
  rintro e2 W2 ⟨rfl, ⟨l', hl', m', hu⟩, y2⟩
  exact ⟨rfl, l', a'.mstep m' y2, e.upd1 hl' hu⟩
/-- What lies in no block of the state's is made. -/
theorem S8.below (a : S8 Z w W g gd gp gt n V q gs go gb F C E l rs lo ro v rows bo) (hb : Below W.heap.size W W') : S8 Z w W' g gd gp gt n V q gs go gb F C E l rs lo ro v rows bo :=
  ⟨a.t.add (Only.of_below hb (Nat.le_refl _)) (fun k hk => .inl hk), a.m.only (S := fun _ => False) (Only.of_below hb (Nat.le_refl _)) (fun _ _ h => h), (hb.block gb a.blt).trans a.b, a.nb⟩
theorem S8.app {v' : Value} {rows' : List (List Value)} (a : S8 Z w W g gd gp gt n V q gs go gb F C E l rs lo ro v rows bo)
    (o : OwnM 43 2 W' w.heap.size v' rows') (ho : Only (fun k => v.ownBlock = some k ∨ W.heap.size ≤ k) W W') (hv : ∀ k, v'.ownBlock = some k → v.ownBlock = some k ∨ (W.heap.size ≤ k ∧ k < W'.heap.size)) :
    S8 Z w W' g gd gp gt n V q gs go gb F C (fun k => E k ∨ v'.ownBlock = some k) l rs lo ro v' rows' bo := by
  have eo : ∀ k, v.ownBlock = some k → E k := fun k hk => by
    obtain ⟨⟨gr, gor, c, co, s1, s2, _, _, ev, _⟩, _, _⟩ := a.m
    exact (ev k hk).1
  have hbl := a.blt
  refine ⟨a.t.add (ho.mono (fun k _ hk => hk.imp (fun h => .inl (eo k h)) id)) (fun k hk => ?_), a.m.app a.lt o ho (fun k hk => (hv k hk).imp id (fun h => h.1)), (ho.block gb a.blt (fun h => h.elim (fun h => a.nb (eo _ h)) (fun h => by omega))).trans a.b, fun h => h.elim a.nb (fun h => (hv _ h).elim (fun h => a.nb (eo _ h)) (fun h => by omega))⟩
  rcases hk with (hk | hk) | hk
  · exact .inl (.inl hk)
  · exact (hv k hk).imp (fun h => .inl (eo k h)) id
  · exact .inl (.inr hk)
theorem S8.own (a : S8 Z w W g gd gp gt n V q gs go gb F C E l rs lo ro v rows bo) : OwnM 43 2 W w.heap.size v rows := by
  obtain ⟨⟨gr, gor, c, co, s1, s2, o, _⟩, _, _⟩ := a.m
  exact o
theorem S8.taken (a : S8 Z w W g gd gp gt n V q gs go gb F C E l rs lo ro v rows bo) (hV : V ≤ 1073000000) (i : Int) (hb : Bd i) (t : Bool) (e : Int) (ht : (0 ≤ i ∧ i < ((n - 2 - 16 : Nat) : Int) ∧ t = tkB (F 1) i.toNat ∧ e = 0) ∨ (¬ (0 ≤ i ∧ i < ((n - 2 - 16 : Nat) : Int)) ∧ t = false ∧ e = 1)) :
    Calls Tryz.prog 23 #[.pointer (some ⟨gt, 0, none⟩), .int .i64 i] W fun en W' => en = .returned (.tuple #[.bool t, .int .i64 e]) ∧ S8 Z w W' g gd gp gt n V q gs go gb F C E l rs lo ro v rows bo := by
  refine (a.t.taken hV i hb t e ht).mono ?_
  rintro en W' ⟨rfl, t', y⟩
  exact ⟨rfl, a.tstep t' y⟩
theorem S8.root (a : S8 Z w W g gd gp gt n V q gs go gb F C E l rs lo ro v rows bo) (hV : V ≤ 1073000000) (k : Int) (hb : Bd k) (u e : Int) (hv : (∃ i : Nat, i < 16 ∧ k = (i : Int) ∧ u = ((rootV (F 0) i : Nat) : Int) ∧ e = 0) ∨ (¬ (0 ≤ k ∧ k < 16) ∧ u = 0 ∧ e = 1)) :
    Calls Tryz.prog 25 #[.pointer (some ⟨gt, 0, none⟩), .int .i64 k] W fun en W' => en = .returned (.tuple #[.int .u32 u, .int .i64 e]) ∧ S8 Z w W' g gd gp gt n V q gs go gb F C E l rs lo ro v rows bo := by
  refine (a.t.root hV k hb u e hv).mono ?_
  rintro en W' ⟨rfl, t', y⟩
  exact ⟨rfl, a.tstep t' y⟩
theorem S8.setroot (a : S8 Z w W g gd gp gt n V q gs go gb F C E l rs lo ro v rows bo) (hV : V ≤ 1073000000) (hq : q < 1073741824) (i u : Nat) (hi : i < 16) (hu : u < 4294967296) :
    Calls Tryz.prog 24 #[.pointer (some ⟨gt, 0, none⟩), .int .i64 (i : Int), .int .u32 (u : Int)] W fun en W' => en = .returned (.int .i64 0) ∧ S8 Z w W' g gd gp gt n V (q + 1) gs go gb (upd F 0 (rootL (F 0) i u)) C E l rs lo ro v rows bo := by
  refine (a.t.setroot hV hq i u hi hu).mono ?_
  rintro en W' ⟨rfl, t', y⟩
  exact ⟨rfl, a.tstep t' y⟩
theorem S8.setrootN (a : S8 Z w W g gd gp gt n V q gs go gb F C E l rs lo ro v rows bo) (hV : V ≤ 1073000000) (k u : Int) (hb : Bd k) (hk : ¬ (0 ≤ k ∧ k < 16)) :
    Calls Tryz.prog 24 #[.pointer (some ⟨gt, 0, none⟩), .int .i64 k, .int .u32 u] W fun en W' => en = .returned (.int .i64 1) ∧ S8 Z w W' g gd gp gt n V q gs go gb F C E l rs lo ro v rows bo := by
  refine (a.t.setrootN hV k u hb hk).mono ?_
  rintro en W' ⟨rfl, t', y⟩
  exact ⟨rfl, a.tstep t' y⟩
/-- The document's root, set likewise. -/
theorem S8.rset (a : S8 Z w W g gd gp gt n V q gs go gb F C E l rs lo ro v rows bo) (k u : Nat) (hk : k < 16) : S8 Z w (W.setCell ⟨gs, 1 + k, none⟩ (.int .u32 (u : Int))) g gd gp gt n V q gs go gb F C E l (rs.set k u) lo ro v rows bo := by
  have m := (a.m.setroot k u hk).2.2
  have hgs : E gs := by obtain ⟨⟨gr, gor, c, co, s1, s2, o, ⟨e1, _⟩, _⟩, _, _⟩ := a.m; exact e1
  exact a.mstep m ((Only.refl E W).setCell (p := ⟨gs, 1 + k, none⟩) hgs _)
theorem Al8.setroot (a : Al8 n F l rs) (h0 : (F 0).length = 512) {k u : Nat} (hk : k < 16) (hu : u < 4294967296) : Al8 n (upd F 0 (rootL (F 0) k u)) l (rs.set k u) := by
  refine ⟨?_, a.len, ?_⟩
  · have e : upd F 0 (rootL (F 0) k u) 1 = F 1 := by unfold upd; rw [if_neg (by omega)]
    rw [e]; exact a.us
  · have e : upd F 0 (rootL (F 0) k u) 0 = rootL (F 0) k u := by unfold upd; rw [if_pos rfl]
    rw [e, roots_set h0 hk hu, ← a.rs]
/-- Between a Commit or an Abort and the next transaction. -/
structure J8 (Z : DK) (w W : World) (g gd gp n V gs go gb : Nat) (C : Nat → List UInt8) (E : Nat → Prop) (l : List Bool) (rs : List Nat) (lo : List Bool) (ro : List Nat) (v : Value) (rows : List (List Value)) (bo : Obj) : Prop where
  j : JnS Z w W g gd gp n V 16 C (fun k => E k ∨ k = gb)
  m : M8 w W gs go l rs lo ro v rows E
  b : W.heap[gb]? = some bo
  nb : ¬ E gb
theorem S8.commit (a : S8 Z w W g gd gp gt n V q gs go gb F C E l rs lo ro v rows bo) (hV : V + n + 60 ≤ 1073000000) (hq : q ≤ 1073741824) :
    Calls Tryz.prog 26 #[.pointer (some ⟨gt, 0, none⟩)] W fun en W' => en = .returned (.int .i64 0) ∧ J8 Z w W' g gd gp n (V + n + 43) gs go gb F E l rs lo ro v rows bo := by
  refine (a.t.commit hV hq (by omega)).mono ?_
  rintro en W' ⟨rfl, j, y⟩
  exact ⟨rfl, j, a.m.only y (fun k hk h => h (.inl hk)), (y.block gb a.blt (fun h => h (.inr rfl))).trans a.b, a.nb⟩
theorem S8.abort (a : S8 Z w W g gd gp gt n V q gs go gb F C E l rs lo ro v rows bo) :
    Calls Tryz.prog 28 #[.pointer (some ⟨gt, 0, none⟩)] W fun en W' => en = .returned (.tuple #[]) ∧ J8 Z w W' g gd gp n V gs go gb C E l rs lo ro v rows bo := by
  refine a.t.abort.mono ?_
  rintro en W' ⟨rfl, j, y⟩
  exact ⟨rfl, j, a.m.only y (fun k hk h => h (.inl hk)), (y.block gb a.blt (fun h => h (.inr rfl))).trans a.b, a.nb⟩
theorem J8.begin_ (a : J8 Z w W g gd gp n V gs go gb C E l rs lo ro v rows bo) (hV : V ≤ 1073000000) :
    Calls Tryz.prog 27 #[.pointer (some ⟨g, 0, none⟩)] W fun en W' => ∃ gt, en = .returned (.tuple #[.pointer (some ⟨gt, 0, none⟩), .int .i64 0]) ∧ S8 Z w W' g gd gp gt n V 0 gs go gb C C E l rs lo ro v rows bo := by
  refine (a.j.begin2 hV).mono ?_
  rintro en W' ⟨gt, rfl, t, y⟩
  exact ⟨gt, rfl, t, a.m.only y (fun k hk h => h (.inl hk)), (y.block gb (Array.getElem?_eq_some_iff.1 a.b).1 (fun h => h (.inr rfl))).trans a.b, a.nb⟩
theorem S8.setOld (a : S8 Z w W g gd gp gt n V q gs go gb F C E l rs lo ro v rows bo) {gr' c' : Nat} (ho : OwnV 4 W' W.heap.size (.slice (some ⟨gr', 0, none⟩) l.length c') (l.map Value.bool)) (hb : Below W.heap.size W W') :
    S8 Z w (W'.setRow go (spC gr' l.length c' rs).toArray) g gd gp gt n V q gs go gb F C (fun k => E k ∨ k = gr') l rs l rs v rows bo := by
  obtain ⟨m, y⟩ := a.m.setOld a.lt a.wle ho hb
  have hg := ownV_blk ho
  have hbl := a.blt
  have hsz := y.size
  have hs2 : (W'.setRow go (spC gr' l.length c' rs).toArray).heap.size = W'.heap.size := by simp [World.setRow]
  refine ⟨a.t.add (y.mono (fun k _ hk => hk.imp .inl id)) (fun k hk => ?_), m, (y.block gb hbl (fun h => h.elim a.nb (fun h => by omega))).trans a.b, fun h => h.elim a.nb (fun h => by omega)⟩
  rcases hk with (hk | hk) | hk
  · exact .inl (.inl hk)
  · exact .inr ⟨by omega, by omega⟩
  · exact .inl (.inr hk)
theorem S8.setNew (a : S8 Z w W g gd gp gt n V q gs go gb F C E l rs lo ro v rows bo) {gr' c' : Nat} (ho : OwnV 4 W' W.heap.size (.slice (some ⟨gr', 0, none⟩) lo.length c') (lo.map Value.bool)) (hb : Below W.heap.size W W') :
    S8 Z w (W'.setRow gs (spC gr' lo.length c' ro).toArray) g gd gp gt n V q gs go gb F C (fun k => E k ∨ k = gr') lo ro lo ro v rows bo := by
  obtain ⟨m, y⟩ := a.m.setNew a.lt a.wle ho hb
  have hg := ownV_blk ho
  have hbl := a.blt
  have hsz := y.size
  have hs2 : (W'.setRow gs (spC gr' lo.length c' ro).toArray).heap.size = W'.heap.size := by simp [World.setRow]
  refine ⟨a.t.add (y.mono (fun k _ hk => hk.imp .inl id)) (fun k hk => ?_), m, (y.block gb hbl (fun h => h.elim a.nb (fun h => by omega))).trans a.b, fun h => h.elim a.nb (fun h => by omega)⟩
  rcases hk with (hk | hk) | hk
  · exact .inl (.inl hk)
  · exact .inr ⟨by omega, by omega⟩
  · exact .inl (.inr hk)
set_option maxRecDepth 100000 in
set_option maxHeartbeats 2000000 in
theorem S8.same (a : S8 Z w W g gd gp gt n V q gs go gb F C E l rs lo ro v rows bo) (e : Al8 n F l rs) (hV : V ≤ 1073000000) :
    Calls Tryz.prog 29 #[.pointer (some ⟨gt, 0, none⟩), .pointer (some ⟨gs, 0, none⟩)] W fun e W' => e = .returned (.bool true) ∧ S8 Z w W' g gd gp gt n V q gs go gb F C E l rs lo ro v rows bo := by
  have sz := a.t.sz
  have CL := Lib.hid (a.t.left hV)
  have A0 := Lib.hid a
  have CRL : Hid (∀ X, S8 Z w X g gd gp gt n V q gs go gb F C E l rs lo ro v rows bo → Calls Tryz.prog 56 #[.pointer (some ⟨gs, 0, none⟩)] X fun e w' => e = .returned (.int .i64 ((cntF (F 1) (n - 2 - 16) : Nat) : Int)) ∧ X = w') := Lib.hid (fun X ax => by
    have := ax.m.rleft e.us (by rw [e.len]; omega)
    rwa [e.len] at this)
  have RT : Hid (∀ k, k < 16 → rs[k]? = some (rootV (F 0) k)) := Lib.hid (fun k hk => by rw [e.rs]; exact roots_at _ hk)
  obtain ⟨N, hN⟩ : ∃ N, cntF (F 1) (n - 2 - 16) = N := ⟨_, rfl⟩
  rw [hN] at CL CRL
  clear a e sz hN
  go_enter Tryz.func29, Tryz.ntmps29
  go_wp2_with (first
    | (go_at_call 55; refine CL.out.mono ?_; rintro e w1 ⟨rfl, t1, y1⟩
       have A1 := Lib.hid (A0.out.tstep t1 y1)
       clear t1 y1)
    | (go_at_call 56; refine (CRL.out _ A1.out).mono ?_; rintro e w2 ⟨rfl, rfl⟩))
  go_loopw [7] (fun x wr => ∃ k : Nat, k ≤ 16 ∧ x = .int .i64 (k : Int) ∧ S8 Z w wr g gd gp gt n V q gs go gb F C E l rs lo ro v rows bo) (fun x _ => 16 - (Go.RowKit.intOf x).toNat)
  case atStart => exact ⟨0, by omega, rfl, A1.out⟩
  case round =>
    obtain ⟨k, hk, rfl, qa⟩ := hrel
    clear A1
    by_cases hlt : k < 16
    · have CR := Lib.hid (qa.t.root hV (k : Int) ⟨by omega, by omega⟩ ((rootV (F 0) k : Nat) : Int) 0 (.inl ⟨k, hlt, rfl, rfl, rfl⟩))
      obtain ⟨u, hu⟩ : ∃ u, rootV (F 0) k = u := ⟨_, rfl⟩
      rw [hu] at CR
      have RU : Hid (rs[k]? = some u) := Lib.hid (by rw [← hu]; exact RT.out k hlt)
      have QA := Lib.hid qa
      clear qa hu
      go_wp2_with (first
        | (go_at_call 25; refine CR.out.mono ?_; rintro e w3 ⟨rfl, t3, y3⟩
           have a3 := QA.out.tstep t3 y3
           have hc3 := a3.m.root RU.out
           have A3 := Lib.hid a3
           clear t3 y3 a3))
      go_roundw
      case rel => exact ⟨k + 1, by omega, by go_num, A3.out⟩
      case measure => simp [Go.RowKit.intOf]; omega
    · have QA := Lib.hid qa
      clear qa
      go_wp2_with fail
      go_ret
      exact ⟨rfl, QA.out⟩
end
end Go.Proofs.YtjpicaofgiagdaaGreat
