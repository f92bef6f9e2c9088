/-
  Own work. The statements of layer 6: JournalFree.
-/
import Derived.Test.YtkbbpkbchniddaaLi
import Derived.Test.YtkbbpkbchniddaaPl
import Derived.Laws.Small
namespace Go.Proofs.Ytkbbpkbchniddaa
open Go.RowKit Go.Maps
set_option linter.unusedVariables false
set_option linter.unusedSimpArgs false

theorem wpList_minF {P : Program} {ops : Array Oper} {rest : List Oper} {o : Oper} {a : Act} {w : World} {Q : Exit → Act → World → Prop} (hw : Region.wanted o (yielded ops a.tmps) = true) (x y : Operand) {ts : Array TypeId}
    (ho : o.op = .call { callee := .builtin .min, args := #[x, y], argTypes := ts }) (X Y V : Int) (hx : a.eval x = .int .i64 X) (hy : a.eval y = .int .i64 Y) (hv : (if Y < X then Y else X) = V)
    (h : wpList P ops Q rest (a.put o.dst (.int .i64 V)) w) : wpList P ops Q (o :: rest) a w := by
  refine BigFrame.wpList_want hw fun K hK => ?_
  unfold Oper.wp execOp
  simp only [ho, resolve, invoke, builtin, Sem.run_bind, Sem.run_pure, Result.andThen_ok, List.map_toArray, List.map_cons, List.map_nil, hx, hy, run_min_int2, hv]
  exact hK _ _ h
/-- Nothing is used: a checkpoint has nothing to do. -/
theorem SJ.idle {p : Pt} {n V T r : Nat} {j : JM} {H : Nat → List UInt8} (a : SJ p n V j T 0 r H) : ckE p n j = 0 ∧ ckP p n j = p ∧ ckJ p n j = j := by
  obtain ⟨s, t0, p0, L, f, d, rfl, _, hu, _⟩ := a
  have hL : L = [] := by
    cases L with
    | nil => rfl
    | cons l L => rw [usedL_cons] at hu; omega
  subst hL
  have hf : frK (jof p.m n s t0 p0 r []).fresh (jof p.m n s t0 p0 r []).fresh.length = [] := frK_nil _ _
  refine ⟨?_, ?_, ?_⟩
  · unfold ckE; rw [if_pos hf]
  · unfold ckP; rw [if_pos hf]
  · unfold ckJ; rw [if_pos hf]
section
variable {Z : DK} {w0 W W' : World} {g gd gp n V T u r : Nat} {p p' : Pt} {j j' : JM} {H : Nat → List UInt8} {S B B' : Nat → Prop}
theorem UpB.check (a : UpB Z w0 W g gd gp n p j B) (b : SJ p n V j T u r H) (hV : V + n + 2 ≤ 1073000000) :
    Calls Try.prog 32 #[.pointer (some ⟨g, 0, none⟩)] W fun en W' => en = .returned (.int .i64 0) ∧ UpB Z w0 W' g gd gp n (ckP p n j) (ckJ p n j) B ∧ Only (fun k => ¬ B k) W W' := by
  have hck := (b.check hV).1
  obtain ⟨_, ok, _, hw, _, _⟩ := b.jok (by omega)
  have hc := b.chk
  have a' := a
  obtain ⟨S, d, o, h1, h2, h3, h4, h5⟩ := a'
  refine (jck_any o d.d ⟨h1, h2, o.lt, o.ltp, o.ne⟩ ok (by omega) hc).mono ?_
  rintro en W' ⟨he, lj⟩
  rw [hck] at he
  obtain ⟨⟨S2, d2, hs2⟩, o2, y2⟩ := lj
  have hlt := o.lt
  have hltp := o.ltp
  have hz := d.bel.size
  have hys := y2.size
  refine ⟨he, ⟨S2, ⟨d2, fun k hk => (hs2 k hk).elim (d.s0 k) (fun h => by omega), d.bel.trans (y2.to_below (fun k hk => ?_) hz)⟩, o2, fun hh => (hs2 g hh).elim h1 (fun h => by omega), fun hh => (hs2 gp hh).elim h2 (fun h => by omega), h3, h4, fun k hk => ?_⟩, y2.mono (fun k _ hk hb => ?_)⟩
  · rcases hk with h | h | h
    · exact d.s0 k h
    · omega
    · omega
  · obtain ⟨q1, q2, q3, q4, q5⟩ := h5 k hk
    exact ⟨fun hh => (hs2 k hh).elim q1 (fun h => by omega), q2, q3, q4, by omega⟩
  · obtain ⟨q1, q2, q3, q4, q5⟩ := h5 k hb
    rcases hk with h | h | h
    · exact q1 h
    · exact q2 h
    · exact q3 h
theorem UpB.writes (a : UpB Z w0 W g gd gp n p j B) (b : SJ p n V j T u r H) (hV : V ≤ 1073000000) :
    Calls Try.prog 35 #[.pointer (some ⟨gd, 0, none⟩)] W fun en W' => en = .returned (.int .i64 (p.m.wrote : Int)) ∧ Below W.heap.size W W' := by
  obtain ⟨_, ok, _⟩ := b.jok hV
  obtain ⟨S, d, _⟩ := a
  exact Z.writes_any d.d ok
theorem UpB.waiting (a : UpB Z w0 W g gd gp n p j B) (b : SJ p n V j T u r H) (hV : V ≤ 1073000000) :
    Calls Try.prog 36 #[.pointer (some ⟨gd, 0, none⟩)] W fun en W' => (∃ A c, en = .returned (.slice A 0 c)) ∧ Below W.heap.size W W' := by
  obtain ⟨_, ok, _, _, _, calm⟩ := b.jok hV
  obtain ⟨S, d, _⟩ := a
  refine (Z.waiting_any d.d ok).mono ?_
  rintro en W' ⟨A, q, c, he, ho, hb⟩
  rw [p.m.wtK_none n calm] at ho
  have hq := ho.len
  have hq0 : q = 0 := by rw [hq]; rfl
  subst hq0
  exact ⟨⟨A, c, he⟩, hb⟩
end
def psC (i : Int) (A : Option Addr) (q c : Nat) : List Value := [.int .i64 i, .slice A q c, .bool false]
def psF (A : Option Addr) (q c : Nat) (k : Nat) : List Value := (List.range k).flatMap fun (i : Nat) => psC (i : Int) A q c
theorem psF_succ (A : Option Addr) (q c k : Nat) : psF A q c (k + 1) = psF A q c k ++ psC (k : Int) A q c := by unfold psF; rw [List.range_succ, List.flatMap_append]; simp
theorem psF_len (A : Option Addr) (q c k : Nat) : (psF A q c k).length = k * 3 := by
  induction k with
  | zero => rfl
  | succ k ih => rw [psF_succ, List.length_append, ih]; show k * 3 + 3 = _; omega
theorem psF_at (A : Option Addr) (q c : Nat) : ∀ (k i j : Nat) (v : Value), i < k → (psC (i : Int) A q c)[j]? = some v → (psF A q c k)[i * 3 + j]? = some v
  | 0, i, j, v, h, _ => absurd h (by omega)
  | k + 1, i, j, v, h, hv => by
    have hj : j < 3 := (List.getElem?_eq_some_iff.1 hv).1
    rw [psF_succ]
    by_cases hik : i < k
    · rw [List.getElem?_append_left (by rw [psF_len]; omega)]
      exact psF_at A q c k i j v hik hv
    · have : i = k := by omega
      subst this
      rw [List.getElem?_append_right (by rw [psF_len]; omega), psF_len, show i * 3 + j - i * 3 = j by omega]
      exact hv
theorem infoPsZ : ∃ ie z, Try.prog.info? 72 = some ie ∧ ie.zero = some z ∧ ie.size = 3 ∧ ie.bytes = 40 ∧ z.cells.size = 3 := by
  have h : (Try.prog.info? 72).map (fun i => (i.size, i.bytes, i.zero.map (fun z => z.cells.size))) = some (3, 40, some 3) := by kernel_rfl
  cases hi : Try.prog.info? 72 with
  | none => rw [hi] at h; cases h
  | some ie =>
    rw [hi] at h
    simp only [Option.map_some, Option.some.injEq, Prod.mk.injEq] at h
    cases hz : ie.zero with
    | none => rw [hz] at h; simp at h
    | some z =>
      rw [hz] at h
      simp only [Option.map_some, Option.some.injEq] at h
      exact ⟨ie, z, rfl, hz, h.1, h.2.1, h.2.2⟩
/-- The list that the law makes. -/
def psL (A : Option Addr) (q c : Nat) (d : List UInt8) (k : Nat) : List PsR := (List.range k).map fun (i : Nat) => ⟨(i : Int), A, q, c, d, false⟩
theorem ps_has {W : World} {base n m k : Nat} {v : Option Addr} {A : Option Addr} {q cc : Nat} {d : List UInt8} (h : W.ownsRow base 72 3 (.slice v n m) k (psF A q cc k)) (hA : HasB W W.heap.size A q d) (hq : q ≤ cc) (hk : k ≤ 1000) : n = k ∧ HasPs W v k (psL A q cc d k) := by
  have hlen : (psL A q cc d k).length = k := by simp [psL]
  rcases h.2 with ⟨e, hn⟩ | ⟨g, c2, cur, e, hb, hg, hn, hc, hs, ht⟩
  · simp only [Value.slice.injEq] at e
    obtain ⟨rfl, rfl, rfl⟩ := e
    subst hn
    exact ⟨rfl, hlen.symm, fun x hx => by simp [psL] at hx, fun hh => absurd hh (by omega)⟩
  · simp only [Value.slice.injEq] at e
    obtain ⟨rfl, rfl, rfl⟩ := e
    refine ⟨rfl, hlen.symm, fun x hx => ?_, fun _ => ⟨g, 0, rfl, (Array.getElem?_eq_some_iff.1 hg).1, fun i x hx => ?_⟩⟩
    · unfold psL at hx
      obtain ⟨i, hi, rfl⟩ := List.mem_map.1 hx
      rw [List.mem_range] at hi
      exact ⟨by show (-9223372036854775808 : Int) ≤ (i : Int); omega, by show (i : Int) ≤ 9223372036854775807; omega⟩
    · unfold psL at hx
      rw [List.getElem?_map] at hx
      have hi : i < n := by
        have := List.getElem?_eq_some_iff.1 (show ((List.range n).map fun (i : Nat) => (⟨(i : Int), A, q, cc, d, false⟩ : PsR))[i]? = some x by rw [List.getElem?_map]; exact hx)
        have := this.1
        simpa using this
      rw [List.getElem?_range hi] at hx
      simp only [Option.map_some, Option.some.injEq] at hx
      subst hx
      have cell : ∀ j u, (psC (i : Int) A q cc)[j]? = some u → W.cell? ⟨g, 0 + i * 3 + j, none⟩ = some u := fun j u hu => by
        rw [Nat.zero_add, cell_of_row W g _ _ _ (0, 0) hg]
        exact cur_at ht (psF_at A q cc n i j u hi hu)
      exact ⟨cell 0 _ rfl, cell 1 _ rfl, cell 2 _ rfl, hA, hq⟩
theorem lsP_psL (A : Option Addr) (q c : Nat) (d : List UInt8) (k : Nat) : lsP (psL A q c d k) = (List.range k).map fun (i : Nat) => ⟨(i : Int), fullL d⟩ := by
  unfold lsP psL
  rw [List.map_map]
  rfl
theorem free_commit {Z : DK} {w W : World} {g gd gp r k : Nat} {p : Pt} {j : JM} {H : Nat → List UInt8} {A : Option Addr} {cl : Nat} {d : List UInt8} {pl : List Pu} (a : UpJ Z w W g gd gp 160 p j) (b : SJ p 160 322 j 1 0 r H) (h1 : 1 ≤ k) (h40 : k ≤ 40) (hr : k < r) (hr2 : r ≤ 67) (hp : HasPu W A k pl) (hpl : pl = (List.range k).map fun (i : Nat) => ⟨(i : Int), fullL d⟩) :
    Calls Try.prog 24 #[.pointer (some ⟨g, 0, none⟩), .slice A k cl] W fun en W' => en = .returned (.int .i64 0) ∧ ∃ p' j' H', UpJ Z w W' g gd gp 160 p' j' ∧ SJ p' 160 525 j' 2 (k + 1) r H' := by
  have hlen : pl.length = k := by rw [hpl]; simp
  have hmem : ∀ x ∈ pl, 0 ≤ x.i ∧ x.i < (160 - 2 - r : Nat) ∧ x.data.length = 512 := by
    intro x hx
    rw [hpl] at hx
    obtain ⟨i, hi, rfl⟩ := List.mem_map.1 hx
    rw [List.mem_range] at hi
    exact ⟨by show (0 : Int) ≤ (i : Int); omega, by show (i : Int) < ((160 - 2 - r : Nat) : Int); omega, fullL_len d⟩
  have hv : lstE 160 j pl = 0 := b.may hmem (by
    rw [hpl, List.map_map]
    unfold List.Nodup
    rw [List.pairwise_map]
    exact List.nodup_range.imp (fun {a b} hab hh => hab (by
      have hh2 : (a : Int) = (b : Int) := hh
      omega))) (by omega) (by omega)
  obtain ⟨c1, c2⟩ := b.commit (by omega) hv (by intro hh; rw [hh] at hlen; simp at hlen; omega)
  have hc := commit_up a b (by omega) A k cl pl hp (by omega) (fun x hx => by rw [(hmem x hx).2.2]; omega)
  rw [c1] at hc
  have hu : (if pl.length + 1 > r - 0 then pl.length + 1 else 0 + (pl.length + 1)) = k + 1 := by rw [hlen]; split <;> omega
  rw [hu] at c2
  refine hc.mono ?_
  rintro en W' ⟨e1, e2⟩
  exact ⟨e1, _, _, _, e2, c2⟩
theorem drewB (w : World) (q : Nat) : Below w.heap.size w (w.drewN q) := ⟨rfl, rfl, rfl, Nat.le_refl _, fun _ _ => rfl⟩
set_option maxRecDepth 100000 in
set_option maxHeartbeats 4000000 in
theorem free_law (Z : DK) (a0 a1 : Int) (b : Option Addr) (bn bc : Nat) (d : List UInt8) (w : World) (h0 : -9223372036854775808 ≤ a0 ∧ a0 ≤ 9223372036854775807) (h1 : -9223372036854775808 ≤ a1 ∧ a1 ≤ 9223372036854775807) (hd : HasB w w.heap.size b bn d) (hc : bn ≤ bc) (hm : bc ≤ maxLen) :
    Calls Try.prog 8 #[.int .i64 a0, .int .i64 a1, .slice b bn bc] w (RetTrue w) := by
  have CB := Lib.hid (fun W => begun6_any Z W)
  have HD := Lib.hid hd
  have HC := Lib.hid hc
  by_cases hl : 512 < bn
  · have hl1 : (512 : Int) < (bn : Int) := by omega
    clear hd hc h0 h1
    go_enter Try.func8, Try.ntmps8
    go_wp2_with (first
      | (go_at_call 14; refine (CB.out _).mono ?_; rintro e w1 ⟨rfl, b1⟩
         have B1 := Lib.hid b1
         clear b1))
    go_ret
    exact ⟨rfl, B1.out⟩
  · have hl1 : ¬ (512 : Int) < (bn : Int) := by omega
    have CP0 := Lib.hid (fun W => place_any a0 60 W h0 (by omega) (by omega))
    have CP1 : Hid (∀ (m : Nat) W, 1 ≤ m → m ≤ 40 → Calls Try.prog 15 #[.int .i64 a1, .int .i64 (m : Int)] W fun e w' => (∃ j : Nat, j < m ∧ e = .returned (.int .i64 (j : Int))) ∧ W = w') := Lib.hid (fun m W g1 g2 => place_any a1 m W h1 g1 (by omega))
    have CN : Hid (∀ W, Below w.heap.size w W → Calls Try.prog 16 #[.int .i64 160] W fun e W' => ∃ g, e = .returned (.pointer (some ⟨g, 0, none⟩)) ∧ OnD Z w W' g 160 (newM 160)) := Lib.hid (fun W hb => new_up Z w W hb 160 (by omega) (by omega))
    obtain ⟨q0, c0⟩ := QP.new 160 (by omega) (by omega)
    obtain ⟨M0, hM0⟩ : ∃ M0, newM 160 = M0 := ⟨_, rfl⟩
    rw [hM0] at q0 c0 CN
    have hm0 : M0.wrote = 0 := by rw [← hM0]; rfl
    obtain ⟨P1, hP1⟩ : ∃ P1 : Nat → Pt, ∀ r, fmtP M0 160 r = P1 r := ⟨fun r => _, fun _ => rfl⟩
    have DS1 : Hid (∀ r : Nat, 8 ≤ r → r ≤ 67 → DS (P1 r) 160 161 1 r (fun _ => zsec)) := Lib.hid (fun r g1 g2 => by rw [← hP1]; exact DS.fmt q0 (by omega) r g1 (by omega) (by omega))
    have CF : Hid (∀ (r : Nat) gd W, 8 ≤ r → r ≤ 67 → OnD Z w W gd 160 M0 → Calls Try.prog 17 #[.pointer (some ⟨gd, 0, none⟩), .int .i64 (r : Int)] W fun en W' => (∃ e : Int, en = .returned (.int .i64 e)) ∧ OnD Z w W' gd 160 (P1 r).m) := Lib.hid (fun r gd W g1 g2 a => (format_up a r q0.ok (by rw [hm0]; omega) g1 (by omega) (by omega)).mono (by rintro en W' ⟨h, h'⟩; rw [hP1] at h'; exact ⟨⟨_, h⟩, h'⟩))
    have CO : Hid (∀ (r : Nat) gd W, 8 ≤ r → r ≤ 67 → OnD Z w W gd 160 (P1 r).m → Calls Try.prog 18 #[.pointer (some ⟨gd, 0, none⟩)] W (OpenUp Z w gd 160 (P1 r) 322 1 r (fun _ => zsec))) := Lib.hid (fun r gd W g1 g2 a => (open_up a (DS1.out r g1 g2) (by omega)).mono (by
      rintro en W' ⟨g, gp, p', j', h1, h2, h3, h4, _⟩
      exact ⟨g, gp, p', j', h1, h2, h3, h4⟩))
    clear hM0 hm0 hP1 q0 c0 h0 h1 hd hc
    go_enter Try.func8, Try.ntmps8
    go_upto_region 6 with (first
      | (go_at_call 14; refine (CB.out _).mono ?_; rintro e w1 ⟨rfl, b1⟩
         have B1 := Lib.hid b1
         clear b1)
      | (go_at_call_of 15 (Value.int .i64 60); refine (CP0.out _).mono ?_; rintro e w2 ⟨⟨r0, hr0, rfl⟩, rfl⟩
         obtain ⟨r, hr⟩ : ∃ r, r = 8 + r0 := ⟨_, rfl⟩))
    have er : (8 : Int) + (r0 : Int) = (r : Int) := by omega
    rw [er]
    have HR : Hid (8 ≤ r ∧ r ≤ 67) := Lib.hid (by omega)
    have hr8 : 8 ≤ r := by omega
    have hr67 : r ≤ 67 := by omega
    clear er hr hr0
    obtain ⟨mm, hmm⟩ : ∃ mm : Nat, mm = if 40 < r - 1 then 40 else r - 1 := ⟨_, rfl⟩
    have hmm2 : 1 ≤ mm ∧ mm ≤ 40 ∧ mm + 1 ≤ r := by rw [hmm]; split <;> omega
    have hmv : (if (40 : Int) < (r : Int) - 1 then (40 : Int) else (r : Int) - 1) = (mm : Int) := by
      rw [hmm]
      by_cases h4 : 40 < r - 1
      · rw [if_pos h4, if_pos (by omega)]; rfl
      · rw [if_neg h4, if_neg (by omega)]; omega
    have MV := Lib.hid hmv
    have MM2 := Lib.hid hmm2
    clear hmm hmv hmm2
    go_upto_region 7 with (first
      | (refine wpList_minF (by rfl) (.tmp 27) (.const (.int .i64 40)) rfl _ _ (mm : Int) rfl rfl MV.out ?_)
      | (go_at_call 15; refine (CP1.out mm _ MM2.out.1 MM2.out.2.1).mono ?_; rintro e w2 ⟨⟨j2, hj2, rfl⟩, rfl⟩
         have hj40 : j2 < 40 := by have := MM2.out; omega
         obtain ⟨N, hN⟩ : ∃ N, N = j2 + 1 := ⟨_, rfl⟩))
    have eN : (1 : Int) + (j2 : Int) = (N : Int) := by omega
    rw [eN]
    have HN : Hid (1 ≤ N ∧ N ≤ 40 ∧ N < r) := Lib.hid (by have := MM2.out; omega)
    have hN40 : N ≤ 40 := HN.out.2.1
    have hN1 : 1 ≤ N := HN.out.1
    have hNr : N < r := HN.out.2.2
    clear eN hN hj2 hj40
    obtain ⟨ie, z, hie, hz, hs, hby, hzs⟩ := infoPsZ
    have IP := Lib.hid (And.intro hie (And.intro hz (And.intro hs (And.intro hby hzs))))
    clear hie hz hs hby hzs
    go_upto_region 14 with (first
      | (go_at_call 16; refine (CN.out _ B1.out).mono ?_; rintro e w3 ⟨gd, rfl, a3⟩
         have A3 := Lib.hid a3
         clear a3)
      | (go_at_call 17; refine (CF.out r _ _ HR.out.1 HR.out.2 A3.out).mono ?_; rintro e w4 ⟨⟨ef, rfl⟩, a4⟩
         have A4 := Lib.hid a4
         clear a4)
      | (go_at_call 18; refine (CO.out r _ _ HR.out.1 HR.out.2 A4.out).mono ?_; rintro e w5 ⟨g, gp, p, j, rfl, a5, b5, _⟩
         have A5 := Lib.hid a5
         have B5 := Lib.hid b5
         have CFr : Calls Try.prog 34 #[.pointer (some ⟨g, 0, none⟩)] w5 (RetQ w5 (.int .i64 (r : Int))) := by
           have q := free_up a5 b5
           rwa [show (r : Int) - ((0 : Nat) : Int) = (r : Int) by omega] at q
         have CFR := Lib.hid CFr
         clear a5 b5 CFr)
      | (go_at_call 34; refine CFR.out.mono ?_; rintro e w6 ⟨rfl, k6, hw6⟩
         have W6 := Lib.hid hw6
         clear hw6))
    have A6 : Hid (UpJ Z w w6 g gd gp 160 p j) := Lib.hid (A5.out.below (by rw [W6.out]; exact ⟨rfl, rfl, rfl, Nat.le_refl _, fun _ _ => rfl⟩))
    go_loopw [10, 11] (fun v i wr => ∃ (k : Nat) (A' : Option Addr) (n' c' : Nat), k ≤ N ∧ i = .int .i64 (k : Int) ∧ v = .slice A' n' c' ∧ wr.ownsRow w6.heap.size 72 3 (.slice A' n' c') k (psF b bn bc k) ∧ Below w6.heap.size w6 wr) (fun _ i _ => N - (Go.RowKit.intOf i).toNat)
    case atStart => exact ⟨0, none, 0, 0, Nat.zero_le _, rfl, rfl, ⟨rfl, .inl ⟨rfl, rfl⟩⟩, Below.refl _ _⟩
    case round =>
      obtain ⟨k, A', n', c', hk, rfl, rfl, qo, qb⟩ := hrel
      have QO := Lib.hid qo
      have QB := Lib.hid qb
      clear qo qb
      by_cases hlt : k < N
      · have OA := Lib.hid (World.ownsRow.alloc QO.out (.cells #[.int .i64 (k : Int), .slice b bn bc, .bool false] 72))
        have HA := Lib.hid (heap_alloc_new wr (.cells (psC (k : Int) b bn bc).toArray 72))
        go_wp2_with (first
          | (at_builtin; refine wpList_append_own_at _ rfl (.tmp 53) (.tmp 57) 38 rfl w6.heap.size 72 ie z 3 40 Try.underlying38 IP.out.1 IP.out.2.1 IP.out.2.2.1 IP.out.2.2.2.1 IP.out.2.2.2.2 (by decide) _ k (psF b bn bc k) rfl OA.out ⟨wr.heap.size, 0, none⟩ 1 1 (psC (k : Int) b bn bc) rfl rfl (fun jj u hu => by rw [Addr.add_lit, Nat.zero_add]; exact (cell_of_row _ _ jj _ _ (0, 0) HA.out).trans (by simpa using hu)) (fun u hu => by simp only [psC, List.mem_cons, List.not_mem_nil, or_false] at hu; rcases hu with rfl | rfl | rfl <;> rfl) (by simp only [maxLen]; omega) (by omega) (Nat.le_trans QB.out.size (by simp)) ?_
             intro v8 w8 own8 gr8 _ _
             have OW8 := Lib.hid own8
             have B8 := Lib.hid ((QB.out.alloc QB.out.size (.cells #[.int .i64 (k : Int), .slice b bn bc, .bool false] 72)).trans ((Below.refl w6.heap.size _).grown gr8 (Nat.le_trans QB.out.size (by simp)) (fun q hq => (World.ownsRow.lt OA.out q hq).1)))
             clear own8 gr8))
        have OX8 := OW8.out
        rw [← psF_succ] at OX8
        obtain ⟨A8, n8, c8, rfl⟩ : ∃ A8 n8 c8, v8 = .slice A8 n8 c8 := by
          rcases OX8.2 with ⟨e, _⟩ | ⟨_, _, _, e, _⟩
          · exact ⟨_, _, _, e⟩
          · exact ⟨_, _, _, e⟩
        have OX8' := Lib.hid OX8
        clear OX8
        go_roundw
        case rel => exact ⟨k + 1, A8, n8, c8, by omega, by go_num, rfl, OX8'.out, B8.out⟩
        case measure => simp [Go.RowKit.intOf]; omega
      · obtain rfl : k = N := by omega
        have hbw := A6.out.bel.trans (QB.out.mono A6.out.bel.size)
        obtain ⟨hnk, hps⟩ := ps_has QO.out (HD.out.on hbw) HC.out (by omega)
        subst hnk
        have CL := Lib.hid (list_any (c := c') hps (by omega) (fun x hx => by
          unfold psL at hx
          obtain ⟨i, _, rfl⟩ := List.mem_map.1 hx
          show d.length ≤ _
          have := HD.out.1
          omega))
        obtain ⟨fr, hfr⟩ : ∃ fr : Int, fr = (r : Int) - (n' : Int) - 1 := ⟨_, rfl⟩
        have HFR := Lib.hid hfr
        have hfr1 : (r : Int) - (n' : Int) - 1 = fr := hfr.symm
        have hfr0 : 0 ≤ fr ∧ fr ≤ 67 := by omega
        clear hps hbw hfr
        go_wp2_with (first
          | (go_at_call 23; refine CL.out.mono ?_; rintro e w7 ⟨A7, c7, rs, rfl, pr7, pl7, b7, x7⟩
             have U7 := Lib.hid (A6.out.below (QB.out.trans (b7.mono QB.out.size)))
             have CM := Lib.hid (free_commit (cl := c7) (d := d) U7.out B5.out hN1 hN40 hNr hr67 pr7.puts (by rw [pl7, lsP_psL]))
             clear pr7 pl7 b7 x7)
          | (go_at_call 24; refine CM.out.mono ?_; rintro e w8 ⟨rfl, p2, j2', H2, u8, s8⟩
             have U8 := Lib.hid u8.b
             have S8 := Lib.hid s8
             have q8 := free_up u8 s8
             rw [show (r : Int) - ((n' + 1 : Nat) : Int) = fr by rw [HFR.out]; omega] at q8
             have F8 := Lib.hid q8
             clear u8 s8 q8)
          | (go_at_call 34; refine F13.out.mono ?_; rintro e w14 ⟨rfl, k14, hw14⟩
             have U14 := Lib.hid (U13.out.below (W' := w14) (by rw [hw14]; exact drewB _ _))
             have R14 := Lib.hid (R13.out.below (w' := w14) (by rw [hw14]; exact drewB _ _))
             have HM14 := Lib.hid (homes_all U14.out S11.out (by omega) (fun q hq => by obtain ⟨S, _, _, _, _, _, _, h5⟩ := U14.out; exact (h5 q hq).2.2.2.2))
             clear hw14)
          | (go_at_call 34; refine F8.out.mono ?_; rintro e w9 ⟨rfl, k9, hw9⟩
             have U9 := Lib.hid (U8.out.below (W' := w9) (by rw [hw9]; exact drewB _ _))
             have HM9 := Lib.hid (homes_all U9.out S8.out (by omega) (fun q hq => hq.elim))
             clear hw9)
          | (go_at_call 19; refine HM14.out.mono ?_; rintro e w15 ⟨A15, c15, rfl, o15, u15, y15⟩
             have AL := Lib.hid (alike_any (c := c10) (d := c15) (R14.out.only y15 (fun q hq hn => hn (.inr hq))).hasS o15.hasS (by omega) (by omega))
             have U15 := Lib.hid u15
             clear o15 u15 y15)
          | (go_at_call 19; refine HM9.out.mono ?_; rintro e w10 ⟨A10, c10, rfl, o10, u10, y10⟩
             have R10 := Lib.hid o10
             have CK := Lib.hid (u10.check S8.out (by omega))
             clear o10 u10 y10)
          | (go_at_call 32; refine CK2.out.mono ?_; rintro e w13 ⟨rfl, u13, y13⟩
             have R13 := Lib.hid (R12.out.only y13 (fun q hq hn => hn (.inr hq)))
             have q13 := (S11.out.idle).2
             rw [q13.1, q13.2] at u13
             have U13 := Lib.hid u13
             have f13 := free_up u13.up S11.out
             rw [show (r : Int) - ((0 : Nat) : Int) = (r : Int) by omega] at f13
             have F13 := Lib.hid f13
             clear u13 y13 q13 f13)
          | (go_at_call 32; refine CK.out.mono ?_; rintro e w11 ⟨rfl, u11, y11⟩
             have R11 := Lib.hid (R10.out.only y11 (fun q hq hn => hn (.inr hq)))
             have U11 := Lib.hid u11
             have S11 := Lib.hid (S8.out.check (by omega)).2
             have CW := Lib.hid (u11.writes S11.out (by omega))
             clear u11 y11)
          | (go_at_call 35; refine (U16.out.writes S11.out (by omega)).mono ?_; rintro e w17 ⟨rfl, b17⟩
             have U17 := Lib.hid (U16.out.below b17)
             have CWt := Lib.hid (U17.out.waiting S11.out (by omega))
             clear b17)
          | (go_at_call 35; refine CW.out.mono ?_; rintro e w12 ⟨rfl, b12⟩
             have R12 := Lib.hid (R11.out.below b12)
             have U12 := Lib.hid (U11.out.below b12)
             have CK2 := Lib.hid (U12.out.check S11.out (by omega))
             clear b12)
          | (go_at_call 26; refine AL.out.mono ?_; rintro e w16 ⟨rfl, k16, hw16⟩
             have U16 := Lib.hid (U15.out.below (W' := w16) (by rw [hw16]; exact drewB _ _))
             clear hw16)
          | (go_at_call 36; refine CWt.out.mono ?_; rintro e w18 ⟨⟨A18, c18, rfl⟩, b18⟩
             have U18 := Lib.hid (U17.out.below b18)
             clear b18))
        go_ret
        exact ⟨rfl, U18.out.up.bel⟩
end Go.Proofs.Ytkbbpkbchniddaa
