/-
  Own work. cofferlaw5's Do: an operation on a disk and on the document's, of one state: both answer alike, and are of one state behind it.
-/
import Derived.Test.YtpnmcdpekfibjaaDq
import Derived.Test.YtpnmcdpekfibjaaSpoil
import Derived.Deep.DeepCutAuto
import Derived.Lib.SmallJoins
namespace Go.Proofs.Ytpnmcdpekfibjaa
open Go.RowKit
set_option linter.unusedVariables false
set_option linter.unusedSimpArgs false

theorem Only.trans2 {T T' : Nat → Prop} {w W W' : World} (h : Only T w W) (h' : Only T' W W') (hT : ∀ k, k < w.heap.size → T' k → T k) : Only T w W' :=
  ⟨h'.os.trans h.os, h'.tape.trans h.tape, h'.output.trans h.output, Nat.le_trans h.size h'.size, fun k hk hS => (h'.block k (Nat.lt_of_lt_of_le hk h.size) fun hs => hS (hT k hk hs)).trans (h.block k hk hS)⟩
/-- The two, the operation's copy, and all that has turned since w. -/
structure DoS (Z : DK) (w : World) (B g : Nat) (S0 : Nat → Prop) (h hl hw n cl cw : Nat) (o : OpR) (W : World) (S : Nat → Prop) (m1 m2 : RM) : Prop where
  du : Duo Z W g S h hl hw n cl cw m1 m2
  bx : BoxAt W w.heap.size o
  on : Only (Both S0 h hl hw) w W
  sub : ∀ k, S k → S0 k ∨ w.heap.size < k
  lt0 : ∀ k, Both S0 h hl hw k → k < w.heap.size
  b0 : ∀ k, Both S0 h hl hw k → B ≤ k
  bw : B ≤ w.heap.size
section
variable {Z : DK} {w W W' : World} {B g h hl hw n cl cw : Nat} {S0 S : Nat → Prop} {o : OpR} {m1 m2 m3 : RM} {v : Value} {e : Ending}
theorem DoS.only {T : Nat → Prop} (d : DoS Z w B g S0 h hl hw n cl cw o W S m1 m2) (ho : Only T W W') (hT : ∀ k, T k → w.heap.size < k ∧ ¬ S k) : DoS Z w B g S0 h hl hw n cl cw o W' S m1 m2 :=
  ⟨d.du.only ho fun k hk ht => by
      rcases hk with hk | hk
      · exact (hT k ht).2 hk
      · have h1 := d.lt0 k (.inr hk); have h2 := (hT k ht).1; omega,
    d.bx.only ho fun ht => by have := (hT _ ht).1; omega,
    d.on.trans2 ho fun k hk ht => by have := (hT k ht).1; omega, d.sub, d.lt0, d.b0, d.bw⟩
theorem DoS.below (d : DoS Z w B g S0 h hl hw n cl cw o W S m1 m2) (hb : Below W.heap.size W W') : DoS Z w B g S0 h hl hw n cl cw o W' S m1 m2 := d.only (Only.of_below (S := fun _ => False) hb (Nat.le_refl _)) (fun _ h => h.elim)
theorem DoS.drew (d : DoS Z w B g S0 h hl hw n cl cw o W S m1 m2) : DoS Z w B g S0 h hl hw n cl cw o W.drew S m1 m2 := d.only (Only.refl (fun _ => False) W).drew (fun _ h => h.elim)
theorem DoS.op (d : DoS Z w B g S0 h hl hw n cl cw o W S m1 m2) (ho : OpOk w B o) (hB : True) : OpOk W B o := ho.below (d.on.to_below d.b0 d.bw)
theorem DoS.big (d : DoS Z w B g S0 h hl hw n cl cw o W S m1 m2) : B ≤ W.heap.size := Nat.le_trans d.bw d.on.size
theorem DoS.slt (d : DoS Z w B g S0 h hl hw n cl cw o W S m1 m2) : ∀ k, S k → k < W.heap.size := fun k hk => Z.lt d.du.d k hk
theorem DoS.stepD (d : DoS Z w B g S0 h hl hw n cl cw o W S m1 m2) (l : Left2 Z.D W g S n v m3 e W') : ∃ S', DoS Z w B g S0 h hl hw n cl cw o W' S' m3 m2 ∧ ∀ k, S' k → S k ∨ W.heap.size ≤ k := by
  obtain ⟨S', d', hs⟩ := d.du.stepD l
  have hx := d.bx.lt
  refine ⟨S', ⟨d', d.bx.only l.2.2 fun ht => ?_, d.on.trans2 l.2.2 fun k hk ht => ?_, fun k hk => ?_, d.lt0, d.b0, d.bw⟩, hs⟩
  · rcases d.sub _ ht with h1 | h1
    · have := d.lt0 _ (.inl h1); omega
    · omega
  · rcases d.sub _ ht with h1 | h1
    · exact .inl h1
    · omega
  · rcases hs k hk with h1 | h1
    · exact d.sub k h1
    · exact .inr (by omega)
theorem DoS.stepR (d : DoS Z w B g S0 h hl hw n cl cw o W S m1 m2) (r : RefD W' h hl hw n cl cw m3) (ho : Only (RefB h hl hw) W W') : DoS Z w B g S0 h hl hw n cl cw o W' S m1 m3 := by
  refine ⟨d.du.stepR r ho, d.bx.only ho fun ht => ?_, d.on.trans2 ho fun k _ ht => .inr ht, d.sub, d.lt0, d.b0, d.bw⟩
  have := d.lt0 _ (.inr ht)
  omega
theorem DoS.refKeep (d : DoS Z w B g S0 h hl hw n cl cw o W S m1 m2) : ∀ k, k < B → ¬ RefB h hl hw k := fun k hk hr => by have := d.b0 k (.inr hr); omega
theorem DoS.diskKeep (d : DoS Z w B g S0 h hl hw n cl cw o W S m1 m2) : ∀ k, k < B → ¬ S k := fun k hk hr => by
  rcases d.sub k hr with h1 | h1
  · have := d.b0 k (.inl h1); omega
  · have := d.bw; omega
end
def RetDo (Z : DK) (w : World) (g : Nat) (S : Nat → Prop) (h hl hw n cl cw : Nat) (m : RM) (e : Ending) (w' : World) : Prop :=
  e = .returned (.bool true) ∧ (∃ S' m', Pair Z w' g S' h hl hw n cl cw m' ∧ (∀ k, S' k → S k ∨ w.heap.size ≤ k) ∧ m'.wrote ≤ m.wrote + 1 ∧ m'.powers ≤ m.powers + 1) ∧ Only (Both S h hl hw) w w'
theorem DoS.fin {Z : DK} {w W : World} {B g h hl hw n cl cw : Nat} {S0 S : Nat → Prop} {o : OpR} {m m2 : RM} (d : DoS Z w B g S0 h hl hw n cl cw o W S m2 m2) (ok : m2.Ok n) (h1 : m2.wrote ≤ m.wrote + 1) (h2 : m2.powers ≤ m.powers + 1) :
    (∃ S' m', Pair Z W g S' h hl hw n cl cw m' ∧ (∀ k, S' k → S0 k ∨ w.heap.size ≤ k) ∧ m'.wrote ≤ m.wrote + 1 ∧ m'.powers ≤ m.powers + 1) ∧ Only (Both S0 h hl hw) w W :=
  ⟨⟨S, m2, ⟨d.du.d, d.du.r, d.du.dis, ok⟩, fun k hk => (d.sub k hk).imp id Nat.le_of_lt, h1, h2⟩, d.on⟩
structure BoxB (W : World) (x : Nat) (o : OpR) (B : Nat) : Prop where
  bx : BoxAt W x o
  hb : HasB W B o.A1 o.n1 o.b
/-- A twin at block t. -/
structure TwinAt (w : World) (base t : Nat) (l : List UInt8) : Prop where
  own : OwnB w base (.slice (some ⟨t, 0, none⟩) (l.length + 3) (l.length + 3)) (l ++ [229, 229, 229])
section
variable {w w' : World} {base t n : Nat} {l : List UInt8}
theorem TwinAt.twin (h : TwinAt w base t l) {A : Option Addr} (hA : A = some ⟨t, 0, none⟩) : TwinB w base A l := ⟨t, hA, h.own⟩
theorem TwinAt.lt (h : TwinAt w base t l) : base ≤ t ∧ t < w.heap.size := h.own.lt t rfl
theorem TwinAt.only5 {T : Nat → Prop} (h : TwinAt w base t l) (ho : Only T w w') (hT : ¬ T t) : TwinAt w' base t l := by
  refine ⟨h.own.1, ?_⟩
  rcases h.own.2 with ⟨h2, _⟩ | ⟨g, c, cur, e, h3, hg, r⟩
  · cases h2
  · simp only [Value.slice.injEq, Option.some.injEq, Addr.mk.injEq, and_true] at e
    obtain ⟨rfl, _, rfl⟩ := e
    exact .inr ⟨t, _, cur, by simp, h3, by rw [ho.block t (Array.getElem?_eq_some_iff.1 hg).1 hT]; exact hg, r⟩
theorem TwinAt.slice (h : TwinAt w base t l) : OwnB w base (.slice (some ⟨t, 0, none⟩) l.length (l.length + 3)) l := by
  rcases h.own.form with ⟨e, _⟩ | ⟨g, c, cur, e, hb, _, hg, hn, hc, hs, ht⟩
  · cases e
  · simp only [Value.slice.injEq, Option.some.injEq, Addr.mk.injEq, and_true] at e
    obtain ⟨rfl, e2, rfl⟩ := e
    refine ⟨by simp [cellsB], .inr ⟨t, _, cur, rfl, hb, hg, by omega, hc, by simpa using hs, ?_⟩⟩
    have h4 := congrArg (List.take l.length) ht
    rw [List.take_take, Nat.min_eq_left (by simp)] at h4
    rw [Nat.mul_one, h4]
    unfold cellsB
    rw [List.map_append, List.take_append_of_le_length (by simp), List.take_of_length_le (by simp)]
theorem TwinAt.outside (h : TwinAt w base t l) (hn : n = l.length) {S : Nat → Prop} (hS : ¬ S t) : HasN w S (some ⟨t, 0, none⟩) n l := by
  subst hn
  refine ⟨rfl, fun hp => ?_⟩
  obtain ⟨g, e, _, hlt, hc⟩ := h.slice.head hp
  simp only [Option.some.injEq, Addr.mk.injEq, and_true] at e
  subst e
  exact ⟨t, 0, rfl, hlt, hS, fun i b hi => by rw [Nat.zero_add]; exact hc i b hi⟩
theorem Only.of_grown {row : Option Nat} (h : w.grownBy w' row) : Only (fun k => row = some k) w w' := ⟨h.os, h.tape, h.output, h.size, fun k hk hr => h.block k hk (fun e => hr e.symm)⟩
end

set_option maxRecDepth 100000 in
set_option maxHeartbeats 4000000 in
theorem do_any (Z : DK) (w : World) (g h hl hw n cl cw : Nat) (S : Nat → Prop) (m : RM) (o : OpR) (B : Nat) (p : Pair Z w g S h hl hw n cl cw m) (ho : OpOk w B o) (hBw : B ≤ w.heap.size) (hBB : ∀ k, Both S h hl hw k → B ≤ k)
    (hn1 : o.n1 ≤ 600) (hn2 : o.n2 ≤ 100) (hwr : m.wrote < 1073741824) (hpw : m.powers < 1073741824) :
    Calls Try.prog 13 #[.pointer (some ⟨g, 0, none⟩), .pointer (some ⟨h, 0, none⟩), .agg o.cells.toArray] w (RetDo Z w g S h hl hw n cl cw m) := by
  have HO := Lib.hid ho
  have HB : True := trivial
  have OK := Lib.hid p.ok
  have kb1 := Lib.hid ho.k1
  have kb2 := Lib.hid ho.k2
  have bi := Lib.hid ho.bi
  have bp := Lib.hid ho.bp
  have hlt0 : ∀ k, Both S h hl hw k → k < w.heap.size := by
    rintro k (hk | hk)
    · exact Z.lt p.d k hk
    · exact p.duo.rlt k hk
  have D0 : DoS Z w B g S h hl hw n cl cw o (w.alloc (.cells o.cells.toArray 32)) S m m :=
    ⟨p.duo.below ((Below.refl _ _).alloc (Nat.le_refl _) _), ⟨heap_alloc_new w _⟩, (Only.refl _ _).alloc _, fun k hk => .inl hk, hlt0, hBB, hBw⟩
  obtain ⟨C, hC⟩ : ∃ C, o.cells.toArray = C := ⟨_, rfl⟩
  rw [hC] at D0 ⊢
  have k0 : (w.alloc (.cells C 32)).cell? ⟨w.heap.size, 0, none⟩ = some (.int .i64 o.kind) := D0.bx.cell 0
  have D0 := Lib.hid D0
  clear hC ho p hBB hlt0
  go_enter Try.func13, Try.ntmps13
  go_upto_region 5 with (first
    | (go_at_call 10; refine (place_any _ 6 _ HO.out.bk (by omega) (by omega)).mono ?_; rintro e w2 ⟨⟨j, hj, rfl⟩, rfl⟩))
  clear k0
  generalize (w.alloc (.cells C 32)) = W1 at D0 ⊢
  rcases (show j = 0 ∨ j = 1 ∨ j = 2 ∨ j = 3 ∨ j = 4 ∨ j = 5 by omega) with rfl | rfl | rfl | rfl | rfl | rfl
  · -- a write of a sector
    obtain ⟨X, hX⟩ : ∃ X, strB (fullL o.b) = X := ⟨_, rfl⟩
    have cw1 := fun W S' A q c (d : Z.D W g S' n m) (ha : HasN W S' A q (fullL o.b)) (h1 : q ≤ c) (h2 : q ≤ 1073741824) => Z.write_any o.i A q c (fullL o.b) d OK.out hwr bi.out ha h1 h2
    have cr1 := fun W (r : RefD W h hl hw n cl cw m) => rwrite_any W h hl hw n cl cw m o.i (strB (fullL o.b)) r OK.out bi.out (by rw [strB_size, fullL_len]; omega)
    have ok6 := OK.out.write o.i (strB (fullL o.b)) hwr
    have cn6 := m.writeM_cnt n o.i (strB (fullL o.b))
    rw [hX] at cw1 cr1 ok6 cn6
    obtain ⟨k, hk⟩ : ∃ k, m.writeE n o.i X = k := ⟨_, rfl⟩
    obtain ⟨M6, hM⟩ : ∃ M6, m.writeM n o.i X = M6 := ⟨_, rfl⟩
    rw [hk, hM] at cw1 cr1
    rw [hM] at ok6 cn6
    have CW := Lib.hid cw1
    have CR := Lib.hid cr1
    have HX := Lib.hid hX
    have OK6 := Lib.hid ok6
    have CN := Lib.hid cn6
    clear cw1 cr1 hX hk hM ok6 cn6
    go_wp2_with fail
    refine wp_region_held_drew (S := fun W => BoxAt W w.heap.size o) (by kernel_rfl) D0.out.bx.drew (fun hHeld => ?_)
    refine wpAnyH_take (i := 0) (v := ?v0a) (by simp only [List.getElem?_toArray, List.getElem?_cons_succ, List.getElem?_cons_zero]; rfl) (by kernel_rfl) (by kernel_rfl) (by kernel_rfl) (by exact fun _ _ _ h => h) (Or.inl ⟨by rfl, ?h0a⟩) (by assumption) ?_
    case h0a => (intro W hSw; (try dsimp only at hSw); go_simp; try with_reducible rfl)
    try simp only [Act.put, List.setIfInBounds_toArray, List.set_cons_zero, List.set_cons_succ]
    refine wpAnyH_take (i := 1) (v := ?v1a) (by simp only [List.getElem?_toArray, List.getElem?_cons_succ, List.getElem?_cons_zero]; rfl) (by kernel_rfl) (by kernel_rfl) (by kernel_rfl) (by exact fun _ _ _ h => h) (Or.inl ⟨by rfl, ?h1a⟩) (by assumption) ?_
    case h1a => (intro W hSw; (try dsimp only at hSw); go_simp; try with_reducible rfl)
    try simp only [Act.put, List.setIfInBounds_toArray, List.set_cons_zero, List.set_cons_succ]
    refine wpAnyH_take (i := 3) (v := ?v3a) (by simp only [List.getElem?_toArray, List.getElem?_cons_succ, List.getElem?_cons_zero]; rfl) (by kernel_rfl) (by kernel_rfl) (by kernel_rfl) (by exact fun _ _ _ h => h) (Or.inl ⟨by rfl, ?h3a⟩) (by assumption) ?_
    case h3a => (intro W hSw; (try dsimp only at hSw); go_simp; try with_reducible rfl)
    try simp only [Act.put, List.setIfInBounds_toArray, List.set_cons_zero, List.set_cons_succ]
    refine wpAnyH_take (i := 7) (v := ?v7a) (by simp only [List.getElem?_toArray, List.getElem?_cons_succ, List.getElem?_cons_zero]; rfl) (by kernel_rfl) (by kernel_rfl) (by kernel_rfl) (by exact fun _ _ _ h => h) (Or.inl ⟨by rfl, ?h7a⟩) (by assumption) ?_
    case h7a => (intro W hSw; (try dsimp only at hSw); go_simp; try with_reducible rfl)
    try simp only [Act.put, List.setIfInBounds_toArray, List.set_cons_zero, List.set_cons_succ]
    refine wpAnyH_take (i := 8) (v := ?v8a) (by simp only [List.getElem?_toArray, List.getElem?_cons_succ, List.getElem?_cons_zero]; rfl) (by kernel_rfl) (by kernel_rfl) (by kernel_rfl) (by exact fun _ _ _ h => h) (Or.inl ⟨by rfl, ?h8a⟩) (by assumption) ?_
    case h8a => (intro W hSw; (try dsimp only at hSw); go_simp; try with_reducible rfl)
    try simp only [Act.put, List.setIfInBounds_toArray, List.set_cons_zero, List.set_cons_succ]
    refine wpAnyH_take (i := 10) (v := ?v10a) (by simp only [List.getElem?_toArray, List.getElem?_cons_succ, List.getElem?_cons_zero]; rfl) (by kernel_rfl) (by kernel_rfl) (by kernel_rfl) (by exact fun _ _ _ h => h) (Or.inl ⟨by rfl, ?h10a⟩) (by assumption) ?_
    case h10a => (intro W hSw; (try dsimp only at hSw); go_simp; try with_reducible rfl)
    try simp only [Act.put, List.setIfInBounds_toArray, List.set_cons_zero, List.set_cons_succ]
    refine wpAnyH_take (i := 2) (by simp only [List.getElem?_toArray, List.getElem?_cons_succ, List.getElem?_cons_zero]; rfl) (by kernel_rfl) (by kernel_rfl) (by kernel_rfl) (by exact fun _ _ _ h => h) (yieldsIf_loadG (by rfl) 3 (.tmp 42) rfl ⟨w.heap.size, 1, none⟩ rfl (.int .i64 o.i) (fun W hS => load_int (show BoxAt W w.heap.size o from hS).i)) (by assumption) ?_
    try simp only [Act.put, List.setIfInBounds_toArray, List.set_cons_zero, List.set_cons_succ]
    refine wpAnyH_take (i := 4) (by simp only [List.getElem?_toArray, List.getElem?_cons_succ, List.getElem?_cons_zero]; rfl) (by kernel_rfl) (by kernel_rfl) (by kernel_rfl) (by exact fun _ _ _ h => h) (yieldsIf_loadG (by rfl) 29 (.tmp 44) rfl ⟨w.heap.size, 3, none⟩ rfl (.slice o.A1 o.n1 o.c1) (fun W hS => load_bytes (show BoxAt W w.heap.size o from hS).bs)) (by assumption) ?_
    try simp only [Act.put, List.setIfInBounds_toArray, List.set_cons_zero, List.set_cons_succ]
    refine wpAnyH_take (i := 9) (by simp only [List.getElem?_toArray, List.getElem?_cons_succ, List.getElem?_cons_zero]; rfl) (by kernel_rfl) (by kernel_rfl) (by kernel_rfl) (by exact fun _ _ _ h => h) (yieldsIf_loadG (by rfl) 3 (.tmp 49) rfl ⟨w.heap.size, 1, none⟩ rfl (.int .i64 o.i) (fun W hS => load_int (show BoxAt W w.heap.size o from hS).i)) (by assumption) ?_
    try simp only [Act.put, List.setIfInBounds_toArray, List.set_cons_zero, List.set_cons_succ]
    refine wpAnyH_take (i := 11) (by simp only [List.getElem?_toArray, List.getElem?_cons_succ, List.getElem?_cons_zero]; rfl) (by kernel_rfl) (by kernel_rfl) (by kernel_rfl) (by exact fun _ _ _ h => h) (yieldsIf_loadG (by rfl) 29 (.tmp 51) rfl ⟨w.heap.size, 3, none⟩ rfl (.slice o.A1 o.n1 o.c1) (fun W hS => load_bytes (show BoxAt W w.heap.size o from hS).bs)) (by assumption) ?_
    try simp only [Act.put, List.setIfInBounds_toArray, List.set_cons_zero, List.set_cons_succ]
    refine wpAnyH_ready (rs := [5]) (by kernel_rfl) (by simp) ?_
    refine AllReadyH.cons (by simp only [List.getElem?_toArray, List.getElem?_cons_succ, List.getElem?_cons_zero]; rfl) (fun K hK => ?_) AllReadyH.nil
    go_simp
    refine (full_any o.A1 o.n1 o.c1 o.b _ B (D0.out.drew.op HO.out HB).hb D0.out.drew.big).mono ?_
    rintro e w5 ⟨A5, n5, c5, rfl, own5, b5⟩
    have D5 := Lib.hid (D0.out.drew.below b5)
    have hS5 : BoxAt w5 w.heap.size o := D5.out.bx
    have N5 := Lib.hid (own5.outside (D0.out.drew.slt))
    have hn5 := own5.len
    rw [fullL_len] at hn5
    subst hn5
    have cp5 := own5.caps.1
    refine hK _ _ hS5 (fun hH5 => ?_)
    clear hK K
    try simp only [Act.put, List.setIfInBounds_toArray, List.set_cons_zero, List.set_cons_succ]
    refine wpAnyH_ready (rs := [6]) (by kernel_rfl) (by simp) ?_
    refine AllReadyH.cons (by simp only [List.getElem?_toArray, List.getElem?_cons_succ, List.getElem?_cons_zero]; rfl) (fun K hK => ?_) AllReadyH.nil
    go_simp
    refine (CW.out _ _ _ _ _ D5.out.du.d N5.out cp5 (by omega)).mono ?_
    rintro e w6 L6
    obtain ⟨S6, D6, hs6⟩ := D5.out.stepD L6
    obtain ⟨rfl, _, _⟩ := L6
    have D6 := Lib.hid D6
    have hS6 : BoxAt w6 w.heap.size o := D6.out.bx
    refine hK _ _ hS6 (fun hH6 => ?_)
    clear hK K
    try simp only [Act.put, List.setIfInBounds_toArray, List.set_cons_zero, List.set_cons_succ]
    refine wpAnyH_ready (rs := [12]) (by kernel_rfl) (by simp) ?_
    refine AllReadyH.cons (by simp only [List.getElem?_toArray, List.getElem?_cons_succ, List.getElem?_cons_zero]; rfl) (fun K hK => ?_) AllReadyH.nil
    go_simp
    refine (full_any o.A1 o.n1 o.c1 o.b _ B (D6.out.op HO.out HB).hb D6.out.big).mono ?_
    rintro e w12 ⟨A12, n12, c12, rfl, own12, b12⟩
    have D12 := Lib.hid (D6.out.below b12)
    have hS12 : BoxAt w12 w.heap.size o := D12.out.bx
    have hcv := run_conv (P := Try.prog) Try.underlying29 Try.underlying5 Try.underlying9 _ _ _ c12 _ own12.has
    rw [show (⟨(fullL o.b).toArray⟩ : ByteArray) = X from HX.out] at hcv
    refine hK _ _ hS12 (fun hH12 => ?_)
    clear hK K
    try simp only [Act.put, List.setIfInBounds_toArray, List.set_cons_zero, List.set_cons_succ]
    refine wpAnyH_ready (rs := [13]) (by kernel_rfl) (by simp) ?_
    refine AllReadyH.cons (by simp only [List.getElem?_toArray, List.getElem?_cons_succ, List.getElem?_cons_zero]; rfl) (fun K hK => ?_) AllReadyH.nil
    refine step_convG (by rfl) 29 9 (.tmp 53) rfl _ _ rfl hcv ?_
    have hS13 := hS12
    refine hK _ _ hS13 (fun hH13 => ?_)
    clear hK K
    try simp only [Act.put, List.setIfInBounds_toArray, List.set_cons_zero, List.set_cons_succ]
    refine wpAnyH_ready (rs := [14]) (by kernel_rfl) (by simp) ?_
    refine AllReadyH.cons (by simp only [List.getElem?_toArray, List.getElem?_cons_succ, List.getElem?_cons_zero]; rfl) (fun K hK => ?_) AllReadyH.nil
    go_simp
    refine (CR.out _ D12.out.du.r).mono ?_
    rintro e w14 ⟨rfl, r14, o14⟩
    have D14 := Lib.hid (D12.out.stepR r14 o14)
    have hS14 : BoxAt w14 w.heap.size o := D14.out.bx
    refine hK _ _ hS14 (fun hH14 => ?_)
    clear hK K
    try simp only [Act.put, List.setIfInBounds_toArray, List.set_cons_zero, List.set_cons_succ]
    refine wpAnyH_take (i := 15) (v := ?v15a) (by simp only [List.getElem?_toArray, List.getElem?_cons_succ, List.getElem?_cons_zero]; rfl) (by kernel_rfl) (by kernel_rfl) (by kernel_rfl) (by exact fun _ _ _ h => h) (Or.inl ⟨by rfl, ?h15a⟩) (by assumption) ?_
    case h15a => (intro W hSw; (try dsimp only at hSw); go_simp; try with_reducible rfl)
    try simp only [Act.put, List.setIfInBounds_toArray, List.set_cons_zero, List.set_cons_succ]
    refine wpAnyH_take (i := 16) (v := ?v16a) (by simp only [List.getElem?_toArray, List.getElem?_cons_succ, List.getElem?_cons_zero]; rfl) (by kernel_rfl) (by kernel_rfl) (by kernel_rfl) (by exact fun _ _ _ h => h) (Or.inl ⟨by rfl, ?h16a⟩) (by assumption) ?_
    case h16a => (intro W hSw; (try dsimp only at hSw); go_simp; try with_reducible rfl)
    try simp only [Act.put, List.setIfInBounds_toArray, List.set_cons_zero, List.set_cons_succ]
    refine wpAnyH_done (by kernel_rfl) ?_ _
    go_wp2_with fail
    go_ret
    exact ⟨rfl, D14.out.fin OK6.out CN.out.1 (by have := CN.out.2; omega)⟩
  · -- a write of what came
    obtain ⟨X, hX⟩ : ∃ X, strB o.b = X := ⟨_, rfl⟩
    have cw1 := fun W S' A q c (d : Z.D W g S' n m) (ha : HasN W S' A q o.b) (h1 : q ≤ c) (h2 : q ≤ 1073741824) => Z.write_any o.i A q c o.b d OK.out hwr bi.out ha h1 h2
    have cr1 := fun W (r : RefD W h hl hw n cl cw m) => rwrite_any W h hl hw n cl cw m o.i (strB o.b) r OK.out bi.out (by rw [strB_size, ← HO.out.hb.len]; omega)
    have ok6 := OK.out.write o.i (strB o.b) hwr
    have cn6 := m.writeM_cnt n o.i (strB o.b)
    rw [hX] at cw1 cr1 ok6 cn6
    obtain ⟨k, hk⟩ : ∃ k, m.writeE n o.i X = k := ⟨_, rfl⟩
    obtain ⟨M6, hM⟩ : ∃ M6, m.writeM n o.i X = M6 := ⟨_, rfl⟩
    rw [hk, hM] at cw1 cr1
    rw [hM] at ok6 cn6
    have CW := Lib.hid cw1
    have CR := Lib.hid cr1
    have HX := Lib.hid hX
    have OK6 := Lib.hid ok6
    have CN := Lib.hid cn6
    have kbs : W1.cell? ⟨w.heap.size, 3, none⟩ = some (.slice o.A1 o.n1 o.c1) := D0.out.bx.bs
    clear cw1 cr1 hX hk hM ok6 cn6
    go_upto_region 9 with (first
      | (go_at_call 31; refine (twin_any o.A1 o.b o.n1 o.c1 _ ((D0.out.op HO.out HB).hb.more D0.out.big) (by omega)).mono ?_; rintro e w1 ⟨A1, rfl, ht1, b1⟩))
    have D1 := Lib.hid (D0.out.below b1)
    obtain ⟨t, rfl, own1⟩ := ht1
    have T1 : Hid (TwinAt w1 W1.heap.size t o.b) := Lib.hid ⟨own1⟩
    have ng1 : ¬ Both S h hl hw t := fun hs => by
      have h1 := D0.out.lt0 t hs
      have h2 := T1.out.lt
      have h3 := D0.out.on.size
      omega
    have tbig : Hid (w.heap.size < t ∧ t < w1.heap.size) := Lib.hid (by
      have h2 := T1.out.lt
      have h3 := D0.out.bx.lt
      omega)
    have N1 := Lib.hid (show HasN w1.drew S _ o.n1 o.b from T1.out.outside HO.out.hb.len (fun hs => ng1 (.inl hs)))
    clear kbs own1 b1
    refine wp_region_held_drew (S := fun W => BoxB W w.heap.size o B) (by kernel_rfl) ⟨D1.out.bx.drew, (D1.out.drew.op HO.out HB).hb⟩ (fun hHeld => ?_)
    refine wpAnyH_take (i := 0) (v := ?v0b) (by simp only [List.getElem?_toArray, List.getElem?_cons_succ, List.getElem?_cons_zero]; rfl) (by kernel_rfl) (by kernel_rfl) (by kernel_rfl) (by exact fun _ _ _ h => h) (Or.inl ⟨by rfl, ?h0b⟩) (by assumption) ?_
    case h0b => (intro W hSw; (try dsimp only at hSw); go_simp; try with_reducible rfl)
    try simp only [Act.put, List.setIfInBounds_toArray, List.set_cons_zero, List.set_cons_succ]
    refine wpAnyH_take (i := 1) (v := ?v1b) (by simp only [List.getElem?_toArray, List.getElem?_cons_succ, List.getElem?_cons_zero]; rfl) (by kernel_rfl) (by kernel_rfl) (by kernel_rfl) (by exact fun _ _ _ h => h) (Or.inl ⟨by rfl, ?h1b⟩) (by assumption) ?_
    case h1b => (intro W hSw; (try dsimp only at hSw); go_simp; try with_reducible rfl)
    try simp only [Act.put, List.setIfInBounds_toArray, List.set_cons_zero, List.set_cons_succ]
    refine wpAnyH_take (i := 3) (v := ?v3b) (by simp only [List.getElem?_toArray, List.getElem?_cons_succ, List.getElem?_cons_zero]; rfl) (by kernel_rfl) (by kernel_rfl) (by kernel_rfl) (by exact fun _ _ _ h => h) (Or.inl ⟨by rfl, ?h3b⟩) (by assumption) ?_
    case h3b => (intro W hSw; (try dsimp only at hSw); go_simp; try with_reducible rfl)
    try simp only [Act.put, List.setIfInBounds_toArray, List.set_cons_zero, List.set_cons_succ]
    refine wpAnyH_take (i := 5) (v := ?v5b) (by simp only [List.getElem?_toArray, List.getElem?_cons_succ, List.getElem?_cons_zero]; rfl) (by kernel_rfl) (by kernel_rfl) (by kernel_rfl) (by exact fun _ _ _ h => h) (Or.inl ⟨by rfl, ?h5b⟩) (by assumption) ?_
    case h5b => (intro W hSw; (try dsimp only at hSw); go_simp; try with_reducible rfl)
    try simp only [Act.put, List.setIfInBounds_toArray, List.set_cons_zero, List.set_cons_succ]
    refine wpAnyH_take (i := 6) (v := ?v6b) (by simp only [List.getElem?_toArray, List.getElem?_cons_succ, List.getElem?_cons_zero]; rfl) (by kernel_rfl) (by kernel_rfl) (by kernel_rfl) (by exact fun _ _ _ h => h) (Or.inl ⟨by rfl, ?h6b⟩) (by assumption) ?_
    case h6b => (intro W hSw; (try dsimp only at hSw); go_simp; try with_reducible rfl)
    try simp only [Act.put, List.setIfInBounds_toArray, List.set_cons_zero, List.set_cons_succ]
    refine wpAnyH_take (i := 8) (v := ?v8b) (by simp only [List.getElem?_toArray, List.getElem?_cons_succ, List.getElem?_cons_zero]; rfl) (by kernel_rfl) (by kernel_rfl) (by kernel_rfl) (by exact fun _ _ _ h => h) (Or.inl ⟨by rfl, ?h8b⟩) (by assumption) ?_
    case h8b => (intro W hSw; (try dsimp only at hSw); go_simp; try with_reducible rfl)
    try simp only [Act.put, List.setIfInBounds_toArray, List.set_cons_zero, List.set_cons_succ]
    refine wpAnyH_take (i := 2) (by simp only [List.getElem?_toArray, List.getElem?_cons_succ, List.getElem?_cons_zero]; rfl) (by kernel_rfl) (by kernel_rfl) (by kernel_rfl) (by exact fun _ _ _ h => h) (yieldsIf_loadG (by rfl) 3 (.tmp 63) rfl ⟨w.heap.size, 1, none⟩ rfl (.int .i64 o.i) (fun W hS => load_int (show BoxB W w.heap.size o B from hS).bx.i)) (by assumption) ?_
    try simp only [Act.put, List.setIfInBounds_toArray, List.set_cons_zero, List.set_cons_succ]
    refine wpAnyH_take (i := 7) (by simp only [List.getElem?_toArray, List.getElem?_cons_succ, List.getElem?_cons_zero]; rfl) (by kernel_rfl) (by kernel_rfl) (by kernel_rfl) (by exact fun _ _ _ h => h) (yieldsIf_loadG (by rfl) 3 (.tmp 68) rfl ⟨w.heap.size, 1, none⟩ rfl (.int .i64 o.i) (fun W hS => load_int (show BoxB W w.heap.size o B from hS).bx.i)) (by assumption) ?_
    try simp only [Act.put, List.setIfInBounds_toArray, List.set_cons_zero, List.set_cons_succ]
    refine wpAnyH_take (i := 9) (by simp only [List.getElem?_toArray, List.getElem?_cons_succ, List.getElem?_cons_zero]; rfl) (by kernel_rfl) (by kernel_rfl) (by kernel_rfl) (by exact fun _ _ _ h => h) (yieldsIf_loadG (by rfl) 29 (.tmp 70) rfl ⟨w.heap.size, 3, none⟩ rfl (.slice o.A1 o.n1 o.c1) (fun W hS => load_bytes (show BoxB W w.heap.size o B from hS).bx.bs)) (by assumption) ?_
    try simp only [Act.put, List.setIfInBounds_toArray, List.set_cons_zero, List.set_cons_succ]
    refine wpAnyH_take (i := 10) (by simp only [List.getElem?_toArray, List.getElem?_cons_succ, List.getElem?_cons_zero]; rfl) (by kernel_rfl) (by kernel_rfl) (by kernel_rfl) (by exact fun _ _ _ h => h) (yieldsIf_conv (by rfl) 29 9 (.tmp 71) rfl _ (.string X) rfl (fun W hS => (by have := run_conv (P := Try.prog) Try.underlying29 Try.underlying5 Try.underlying9 B o.A1 o.n1 o.c1 _ (show BoxB W w.heap.size o B from hS).hb; rwa [show (⟨o.b.toArray⟩ : ByteArray) = X from HX.out] at this))) (by assumption) ?_
    try simp only [Act.put, List.setIfInBounds_toArray, List.set_cons_zero, List.set_cons_succ]
    refine wpAnyH_ready (rs := [4]) (by kernel_rfl) (by simp) ?_
    refine AllReadyH.cons (by simp only [List.getElem?_toArray, List.getElem?_cons_succ, List.getElem?_cons_zero]; rfl) (fun K hK => ?_) AllReadyH.nil
    go_simp
    refine (CW.out _ _ _ _ _ D1.out.drew.du.d N1.out (by omega) (by omega)).mono ?_
    rintro e w4 L4
    obtain ⟨S4, D4, hs4⟩ := D1.out.drew.stepD L4
    have T4 := Lib.hid ((show TwinAt w1.drew _ _ _ from ⟨T1.out.own⟩).only5 L4.2.2 (fun hs => ng1 (.inl hs)))
    obtain ⟨rfl, _, _⟩ := L4
    have D4 := Lib.hid D4
    have hS4 : BoxB w4 w.heap.size o B := ⟨D4.out.bx, (D4.out.op HO.out HB).hb⟩
    refine hK _ _ hS4 (fun hH4 => ?_)
    clear hK K
    try simp only [Act.put, List.setIfInBounds_toArray, List.set_cons_zero, List.set_cons_succ]
    refine wpAnyH_ready (rs := [11]) (by kernel_rfl) (by simp) ?_
    refine AllReadyH.cons (by simp only [List.getElem?_toArray, List.getElem?_cons_succ, List.getElem?_cons_zero]; rfl) (fun K hK => ?_) AllReadyH.nil
    go_simp
    refine (CR.out _ D4.out.du.r).mono ?_
    rintro e w11 ⟨rfl, r11, o11⟩
    have D11 := Lib.hid (D4.out.stepR r11 o11)
    have T11 := Lib.hid (T4.out.only5 o11 (fun hs => ng1 (.inr hs)))
    have hS11 : BoxB w11 w.heap.size o B := ⟨D11.out.bx, (D11.out.op HO.out HB).hb⟩
    refine hK _ _ hS11 (fun hH11 => ?_)
    clear hK K
    try simp only [Act.put, List.setIfInBounds_toArray, List.set_cons_zero, List.set_cons_succ]
    refine wpAnyH_take (i := 12) (v := ?v12b) (by simp only [List.getElem?_toArray, List.getElem?_cons_succ, List.getElem?_cons_zero]; rfl) (by kernel_rfl) (by kernel_rfl) (by kernel_rfl) (by exact fun _ _ _ h => h) (Or.inl ⟨by rfl, ?h12b⟩) (by assumption) ?_
    case h12b => (intro W hSw; (try dsimp only at hSw); go_simp; try with_reducible rfl)
    try simp only [Act.put, List.setIfInBounds_toArray, List.set_cons_zero, List.set_cons_succ]
    refine wpAnyH_take (i := 13) (v := ?v13b) (by simp only [List.getElem?_toArray, List.getElem?_cons_succ, List.getElem?_cons_zero]; rfl) (by kernel_rfl) (by kernel_rfl) (by kernel_rfl) (by exact fun _ _ _ h => h) (Or.inl ⟨by rfl, ?h13b⟩) (by assumption) ?_
    case h13b => (intro W hSw; (try dsimp only at hSw); go_simp; try with_reducible rfl)
    try simp only [Act.put, List.setIfInBounds_toArray, List.set_cons_zero, List.set_cons_succ]
    refine wpAnyH_take (i := 14) (v := ?v14b) (by simp only [List.getElem?_toArray, List.getElem?_cons_succ, List.getElem?_cons_zero]; rfl) (by kernel_rfl) (by kernel_rfl) (by kernel_rfl) (by exact fun _ _ _ h => h) (Or.inl ⟨by rfl, ?h14b⟩) (by assumption) ?_
    case h14b => (intro W hSw; (try dsimp only at hSw); go_simp; try with_reducible rfl)
    try simp only [Act.put, List.setIfInBounds_toArray, List.set_cons_zero, List.set_cons_succ]
    refine wpAnyH_take (i := 15) (v := ?v15b) (by simp only [List.getElem?_toArray, List.getElem?_cons_succ, List.getElem?_cons_zero]; rfl) (by kernel_rfl) (by kernel_rfl) (by kernel_rfl) (by exact fun _ _ _ h => h) (Or.inl ⟨by rfl, ?h15b⟩) (by assumption) ?_
    case h15b => (intro W hSw; (try dsimp only at hSw); go_simp; try with_reducible rfl)
    try simp only [Act.put, List.setIfInBounds_toArray, List.set_cons_zero, List.set_cons_succ]
    refine wpAnyH_take (i := 16) (by simp only [List.getElem?_toArray, List.getElem?_cons_succ, List.getElem?_cons_zero]; rfl) (by kernel_rfl) (by kernel_rfl) (by kernel_rfl) (by exact fun _ _ _ h => h) (yieldsIf_loadG (by rfl) 29 (.tmp 77) rfl ⟨w.heap.size, 3, none⟩ rfl (.slice o.A1 o.n1 o.c1) (fun W hS => load_bytes (show BoxB W w.heap.size o B from hS).bx.bs)) (by assumption) ?_
    try simp only [Act.put, List.setIfInBounds_toArray, List.set_cons_zero, List.set_cons_succ]
    refine wpAnyH_ready (rs := [17]) (by kernel_rfl) (by simp) ?_
    refine AllReadyH.cons (by simp only [List.getElem?_toArray, List.getElem?_cons_succ, List.getElem?_cons_zero]; rfl) (fun K hK => ?_) AllReadyH.nil
    go_simp
    refine (kept_any _ o.A1 o.b o.n1 o.c1 _ _ (T11.out.twin rfl) ((D11.out.op HO.out HB).hb.more D11.out.big) (by omega)).mono ?_
    rintro e w17 ⟨rfl, rfl⟩
    have hS17 := hS11
    refine hK _ _ hS17 (fun hH17 => ?_)
    clear hK K
    try simp only [Act.put, List.setIfInBounds_toArray, List.set_cons_zero, List.set_cons_succ]
    refine wpAnyH_take (i := 18) (v := ?v18b) (by simp only [List.getElem?_toArray, List.getElem?_cons_succ, List.getElem?_cons_zero]; rfl) (by kernel_rfl) (by kernel_rfl) (by kernel_rfl) (by exact fun _ _ _ h => h) (Or.inl ⟨by rfl, ?h18b⟩) (by assumption) ?_
    case h18b => (intro W hSw; (try dsimp only at hSw); go_simp; try with_reducible rfl)
    try simp only [Act.put, List.setIfInBounds_toArray, List.set_cons_zero, List.set_cons_succ]
    refine wpAnyH_take (i := 19) (v := ?v19b) (by simp only [List.getElem?_toArray, List.getElem?_cons_succ, List.getElem?_cons_zero]; rfl) (by kernel_rfl) (by kernel_rfl) (by kernel_rfl) (by exact fun _ _ _ h => h) (Or.inl ⟨by rfl, ?h19b⟩) (by assumption) ?_
    case h19b => (intro W hSw; (try dsimp only at hSw); go_simp; try with_reducible rfl)
    try simp only [Act.put, List.setIfInBounds_toArray, List.set_cons_zero, List.set_cons_succ]
    refine wpAnyH_done (by kernel_rfl) ?_ _
    go_wp2_with (first
      | (go_at_call 33; refine (by have := spoil_row _ _ _ _ _ _ T11.out.slice; rw [← HO.out.hb.len] at this; exact this : Calls _ _ _ _ (RetRow (some t) _)).mono ?_; rintro e w20 ⟨rfl, hg20⟩))
    have D20 := D11.out.only (Only.of_grown hg20) (fun k hk => by
      injection hk with hk
      subst hk
      refine ⟨tbig.out.1, fun hs => ?_⟩
      rcases hs4 _ hs with h1 | h1
      · exact ng1 (.inl h1)
      · have := tbig.out.2; have h4 : w1.heap.size ≤ t := h1; omega)
    go_wp2_with fail
    go_ret
    exact ⟨rfl, D20.fin OK6.out CN.out.1 (by have := CN.out.2; omega)⟩
  · -- a flush
    have cf := fun W S' (d : Z.D W g S' n m) => Z.flush_any d OK.out
    have cr1 := fun W (r : RefD W h hl hw n cl cw m) => rflush_any W h hl hw n cl cw m r OK.out
    have ok6 := OK.out.flush
    have cn6 := m.flushM_cnt n
    obtain ⟨k, hk⟩ : ∃ k, m.flushE = k := ⟨_, rfl⟩
    obtain ⟨M6, hM⟩ : ∃ M6, m.flushM n = M6 := ⟨_, rfl⟩
    rw [hk, hM] at cf cr1
    rw [hM] at ok6 cn6
    have CF := Lib.hid cf
    have CR := Lib.hid cr1
    have OK6 := Lib.hid ok6
    have CN := Lib.hid cn6
    clear cf cr1 hk hM ok6 cn6
    go_wp2_with (first
      | (go_at_call 24; refine (CF.out _ _ D0.out.du.d).mono ?_; rintro e w2 L2
         obtain ⟨S2, D2, _⟩ := D0.out.stepD L2
         obtain ⟨rfl, _, _⟩ := L2
         have D2 := Lib.hid D2)
      | (go_at_call 34; refine (CR.out _ D2.out.du.r).mono ?_; rintro e w3 ⟨rfl, r3, o3⟩
         have D3 := Lib.hid (D2.out.stepR r3 o3)
         clear r3 o3))
    go_ret
    exact ⟨rfl, D3.out.fin OK6.out (by have := CN.out.1; omega) (by have := CN.out.2; omega)⟩
  · -- arming
    have cf := fun W S' (d : Z.D W g S' n m) => Z.arm_any o.i o.part d OK.out bi.out bp.out
    have cr1 := fun W (r : RefD W h hl hw n cl cw m) => rarm_any W h hl hw n cl cw m o.i o.part r
    have ok6 := OK.out.arm o.i o.part bi.out.2
    have cn6 : (m.armM o.i o.part).wrote = m.wrote ∧ (m.armM o.i o.part).powers = m.powers := ⟨rfl, rfl⟩
    obtain ⟨M6, hM⟩ : ∃ M6, m.armM o.i o.part = M6 := ⟨_, rfl⟩
    rw [hM] at cf cr1 ok6 cn6
    have CF := Lib.hid cf
    have CR := Lib.hid cr1
    have OK6 := Lib.hid ok6
    have CN := Lib.hid cn6
    have k1 : W1.cell? ⟨w.heap.size, 1, none⟩ = some (.int .i64 o.i) := D0.out.bx.i
    have k2 : W1.cell? ⟨w.heap.size, 2, none⟩ = some (.int .i64 o.part) := D0.out.bx.part
    clear cf cr1 hM ok6 cn6
    go_wp2_with (first
      | (go_at_call 25; refine (CF.out _ _ D0.out.du.d).mono ?_; rintro e w2 L2
         obtain ⟨S2, D2, _⟩ := D0.out.stepD L2
         obtain ⟨rfl, _, _⟩ := L2
         have k3 : w2.cell? ⟨w.heap.size, 1, none⟩ = some (.int .i64 o.i) := D2.bx.i
         have k4 : w2.cell? ⟨w.heap.size, 2, none⟩ = some (.int .i64 o.part) := D2.bx.part
         have D2 := Lib.hid D2)
      | (go_at_call 35; refine (CR.out _ D2.out.du.r).mono ?_; rintro e w3 ⟨rfl, r3, o3⟩
         have D3 := Lib.hid (D2.out.stepR r3 o3)
         clear r3 o3))
    go_ret
    exact ⟨rfl, D3.out.fin OK6.out (by have := CN.out.1; omega) (by have := CN.out.2; omega)⟩
  · -- a failure of the power
    have cf := fun W S' (d : Z.D W g S' n m) (hk : HasNo W S' o.A2 o.n2 o.keep) => Z.power_any o.A2 o.n2 o.c2 o.keep d OK.out hpw hk kb2.out.1 (by omega)
    have cr1 := fun W (r : RefD W h hl hw n cl cw m) (hk : HasBo W B o.A2 o.n2 o.keep) (h1 : B ≤ W.heap.size) (h2 : ∀ k, k < B → ¬ RefB h hl hw k) => rpower_any W h hl hw n cl cw m o.A2 o.n2 o.c2 o.keep B r OK.out hk h1 h2 (by omega)
    have ok6 := OK.out.power o.keep hpw
    have cn6 := m.powerM_cnt n o.keep
    obtain ⟨M6, hM⟩ : ∃ M6, m.powerM n o.keep = M6 := ⟨_, rfl⟩
    rw [hM] at cf cr1 ok6 cn6
    have CF := Lib.hid cf
    have CR := Lib.hid cr1
    have OK6 := Lib.hid ok6
    have CN := Lib.hid cn6
    have k1 : W1.cell? ⟨w.heap.size, 4, none⟩ = some (.slice o.A2 o.n2 o.c2) := D0.out.bx.ks
    clear cf cr1 hM ok6 cn6
    go_wp2_with (first
      | (go_at_call 16; refine (CF.out _ _ D0.out.du.d ((D0.out.op HO.out HB).hk.outside D0.out.big D0.out.diskKeep)).mono ?_; rintro e w2 L2
         obtain ⟨S2, D2, _⟩ := D0.out.stepD L2
         obtain ⟨rfl, _, _⟩ := L2
         have k3 : w2.cell? ⟨w.heap.size, 4, none⟩ = some (.slice o.A2 o.n2 o.c2) := D2.bx.ks
         have D2 := Lib.hid D2)
      | (go_at_call 17; refine (CR.out _ D2.out.du.r (D2.out.op HO.out HB).hk D2.out.big D2.out.refKeep).mono ?_; rintro e w3 ⟨rfl, r3, o3⟩
         have D3 := Lib.hid (D2.out.stepR r3 o3)
         clear r3 o3))
    go_ret
    exact ⟨rfl, D3.out.fin OK6.out (by have := CN.out.1; omega) (by have := CN.out.2; omega)⟩
  · -- a reading
    obtain ⟨k, hk⟩ : ∃ k, m.readE n o.i = k := ⟨_, rfl⟩
    obtain ⟨X, hX⟩ : ∃ X, m.readS n o.i = X := ⟨_, rfl⟩
    have c1 := Z.read_any o.i D0.out.du.d OK.out bi.out
    rw [hk, hX] at c1
    have C1 := Lib.hid c1
    have C2 : Hid (∀ W, RefD W h hl hw n cl cw m → Calls Try.prog 36 #[.pointer (some ⟨h, 0, none⟩), .int .i64 o.i] W fun e w' => e = .returned (.tuple #[.string X, .int .i64 k]) ∧ W = w') := Lib.hid (fun W r => by
      have := rread_any W h hl hw n cl cw m o.i r OK.out bi.out
      rwa [hk, hX] at this)
    have k1 : W1.cell? ⟨w.heap.size, 1, none⟩ = some (.int .i64 o.i) := D0.out.bx.i
    clear c1 hk hX
    go_wp2_with (first
      | (go_at_call 18; refine C1.out.mono ?_; rintro e w2 ⟨A2, n3, c2, rfl, own2, b2⟩
         have D2 := Lib.hid (D0.out.below b2)
         have k3 : w2.cell? ⟨w.heap.size, 1, none⟩ = some (.int .i64 o.i) := D2.out.bx.i
         have hcv := run_conv (P := Try.prog) Try.underlying29 Try.underlying5 Try.underlying9 w2.heap.size A2 n3 c2 _ own2.has
         rw [show (⟨(lst X).toArray⟩ : ByteArray) = X from strB_lst X] at hcv
         have HC := Lib.hid hcv
         clear own2 b2 hcv)
      | (go_at_call 36; refine (C2.out _ D2.out.du.r).mono ?_; rintro e w3 ⟨rfl, rfl⟩)
      | (refine wpList_convG rfl 29 9 (.tmp 34) rfl _ _ rfl HC.out ?_))
    go_ret
    exact ⟨rfl, D2.out.fin OK.out (by omega) (by omega)⟩
end Go.Proofs.Ytpnmcdpekfibjaa
