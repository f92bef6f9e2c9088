/-
  Own work. DiskAll walked over a disk by its contracts.
-/
import Derived.Test.YtpnmcdpekfibjaaDo
import Derived.Test.YtpnmcdpekfibjaaSr
import Derived.Test.YtpnmcdpekfibjaaDb
namespace Go.Proofs.Ytpnmcdpekfibjaa
open Go.RowKit
set_option linter.unusedVariables false
set_option linter.unusedSimpArgs false

theorem wpList_loadG {P : Program} {ops : Array Oper} {rest : List Oper} {o : Oper} {a : Act} {w : World} {Q : Exit → Act → World → Prop} (hw : Region.wanted o (yielded ops a.tmps) = true) (ty : TypeId) (x : Operand) (ho : o.op = .load ty x)
    (ad : Addr) (hx : a.eval x = .pointer (some ad)) (v : Value) (hl : (loadVar ty ad).run P w = .ok v w) (h : wpList P ops Q rest (a.put o.dst v) w) : wpList P ops Q (o :: rest) a w := by
  refine BigFrame.wpList_want hw fun K hK => ?_
  unfold Oper.wp execOp
  simp only [ho, hx, Instr.loadAt, Instr.sureAddr, Sem.run_bind, Sem.run_pure, Result.andThen_ok, hl]
  exact hK _ _ h
theorem load_op {W : World} {g o : Nat} {op : OpR} (h : ∀ k v, op.cells[k]? = some v → W.cell? ⟨g, o + k, none⟩ = some v) : (loadVar 32 ⟨g, o, none⟩).run Try.prog W = .ok (.agg op.cells.toArray) W := by
  have hl : (loadCells ⟨g, o, none⟩ 5).run Try.prog W = .ok op.cells.toArray W :=
    run_loadCells_list (P := Try.prog) W ⟨g, o, none⟩ op.cells (fun j v hv => by rw [Addr.add_lit]; exact h j v hv)
  have hi : (Try.prog.info? 32).map (·.size) = some 5 := by kernel_rfl
  cases hq : Try.prog.info? 32 with
  | none => simp [hq] at hi
  | some i =>
    have hs : i.size = 5 := by simpa [hq] using hi
    simp [loadVar, isAgg, run_underlying Try.underlying32, sizeOf, typeInfo, hq, hs, hl, Sem.run_bind]
/-- Where the i-th operation lies. -/
structure OpAt (W : World) (B : Nat) (g o i : Nat) (op : OpR) : Prop where
  ok : OpOk W B op
  cells : ∀ k v, op.cells[k]? = some v → W.cell? ⟨g, o + (5 * i + k), none⟩ = some v
  lt : g < B
theorem OpAt.below {W W' : World} {B g o i : Nat} {op : OpR} (h : OpAt W B g o i op) (hb : Below B W W') : OpAt W' B g o i op := ⟨h.ok.below hb, fun k v hk => (hb.cell (by exact h.lt)).trans (h.cells k v hk), h.lt⟩

set_option maxRecDepth 100000 in
set_option maxHeartbeats 2000000 in
theorem all_law (Z : DK) (A : Option Addr) (n c : Nat) (ops : List OpR) (z : Int) (w : World) (h : HasOps w w.heap.size A n ops) (hc : n ≤ c) (hcm : c ≤ maxLen) (hz : -9223372036854775808 ≤ z ∧ z ≤ 9223372036854775807) :
    Calls Try.prog 3 #[.int .i64 z, .slice A n c] w (RetTrue w) := by
  unfold maxLen at hcm
  have HS := Lib.hid h
  have HZ := Lib.hid hz
  by_cases hbig : 100 < n
  · clear h hz
    go_enter Try.func3, Try.ntmps3
    go_wp2_with (go_at_call 9; refine (begun5_any Z _).mono ?_; rintro e w1 ⟨rfl, b1⟩)
    go_ret
    exact ⟨rfl, b1⟩
  · clear h hz
    go_enter Try.func3, Try.ntmps3
    go_wp2_with (first
      | (go_at_call 9; refine (begun5_any Z _).mono ?_; rintro e w1 ⟨rfl, b1⟩
         have B1 := Lib.hid b1
         clear b1)
      | (go_at_call 10; refine (place_any z 9 _ HZ.out (by omega) (by omega)).mono ?_; rintro e w2 ⟨⟨j, hj, rfl⟩, rfl⟩
         obtain ⟨N, hN⟩ : ∃ N, 32 + j = N := ⟨_, rfl⟩
         have hN2 : 32 + (j : Int) = (N : Int) := by omega
         have N1 : 32 ≤ N := by omega
         have N2 : N ≤ 4096 := by omega
         clear hN)
      | (go_at_call 11; refine (Z.new_any _ N N1 N2).mono ?_; rintro e w3 ⟨g, S1, rfl, d1, s1, b3⟩
         have D3 : Hid (OwD Z w w3 g S1 N (newM N)) := Lib.hid ⟨d1, fun k hk => Nat.le_trans B1.out.size (s1 k hk), B1.out.trans (b3.mono B1.out.size)⟩
         clear d1 s1 b3)
      | (go_at_call 12; refine (rnew_any _ N N1 N2).mono ?_; rintro e w4 ⟨h, hl, hw, cl, cw, rfl, r4, q1, q2, q3, b4⟩))
    have P4 : Pair Z w4 g S1 h hl hw N cl cw (newM N) := ⟨(D3.out.below b4).d, r4, by
      rintro k hk (rfl | rfl | rfl)
      · have := D3.out.slt _ hk; omega
      · have := D3.out.slt _ hk; omega
      · have := D3.out.slt _ hk; omega, newM_ok N N1 N2⟩
    have A4 : ∀ k, Both S1 h hl hw k → w.heap.size ≤ k := by
      have h1 := D3.out.bel.size
      rintro k (hk | hk)
      · exact D3.out.s0 k hk
      · rcases hk with rfl | rfl | rfl <;> omega
    have B4 := (D3.out.below b4).bel
    clear b4 r4 q1 q2 q3 D3 hN2 hj
    go_loopw [7] (fun x wr => ∃ (i : Nat) (S : Nat → Prop) (m : RM), x = .int .i64 (i : Int) ∧ i ≤ n ∧ Pair Z wr g S h hl hw N cl cw m ∧ (∀ k, Both S h hl hw k → w.heap.size ≤ k) ∧ Below w.heap.size w wr ∧ m.wrote ≤ i ∧ m.powers ≤ i) (fun x _ => n - (intOf x).toNat)
    case atStart => exact ⟨0, S1, newM N, rfl, by omega, P4, A4, B4, Nat.le_refl _, Nat.le_refl _⟩
    case round =>
      obtain ⟨i, S, m, rfl, hi, hp, ha, hbel, hm1, hm2⟩ := hrel
      clear P4 A4 B4 S1
      have P := Lib.hid hp
      have AA := Lib.hid ha
      have BR := Lib.hid hbel
      have C1 := Lib.hid hm1
      have C2 := Lib.hid hm2
      clear hp ha hbel hm1 hm2
      by_cases hlt : i < n
      · obtain ⟨op, hop⟩ : ∃ op, ops[i]? = some op := ⟨_, List.getElem?_eq_getElem (by have := HS.out.1; omega)⟩
        obtain ⟨g0, o0, rfl, hg0, hcells⟩ := HS.out.2 (by omega)
        have OA0 : OpAt w w.heap.size g0 o0 i op := ⟨(hcells i op hop).1, (hcells i op hop).2, hg0⟩
        have OA := Lib.hid (OA0.below BR.out)
        clear hop hcells OA0
        have e3 : wr.cell? ⟨g0, o0 + (5 * i + 3), none⟩ = some (.slice op.A1 op.n1 op.c1) := OA.out.cells 3 _ rfl
        have e4 : wr.cell? ⟨g0, o0 + (5 * i + 4), none⟩ = some (.slice op.A2 op.n2 op.c2) := OA.out.cells 4 _ rfl
        have e3' : wr.cell? ⟨g0, o0 + i * 5 + 3, none⟩ = some (.slice op.A1 op.n1 op.c1) := by rw [show o0 + i * 5 + 3 = o0 + (5 * i + 3) by omega]; exact e3
        have e4' : wr.cell? ⟨g0, o0 + i * 5 + 4, none⟩ = some (.slice op.A2 op.n2 op.c2) := by rw [show o0 + i * 5 + 4 = o0 + (5 * i + 4) by omega]; exact e4
        clear e3 e4
        by_cases hb1 : 600 < op.n1
        · go_wp2_with fail
          go_ret
          exact ⟨rfl, BR.out⟩
        · by_cases hb2 : 100 < op.n2
          · go_wp2_with fail
            go_ret
            exact ⟨rfl, BR.out⟩
          · have LD := Lib.hid (load_op (W := wr) (g := g0) (o := o0 + i * 5) (op := op) (fun k v hk => by rw [show o0 + i * 5 + k = o0 + (5 * i + k) by omega]; exact OA.out.cells k v hk))
            have CD := Lib.hid (do_any Z wr g h hl hw N cl cw S m op w.heap.size P.out OA.out.ok BR.out.size AA.out (by omega) (by omega) (by have := C1.out; omega) (by have := C2.out; omega))
            go_wp2_with (first
              | (refine wpList_loadG rfl 32 (.tmp 46) rfl ⟨g0, o0 + i * 5, none⟩ rfl _ LD.out ?_)
              | (go_at_call 13; refine CD.out.mono ?_; rintro e w5 ⟨rfl, ⟨S5, m5, p5, s5, f1, f2⟩, o5⟩
                 have P5 := Lib.hid p5
                 have A5 : Hid (∀ k, Both S5 h hl hw k → w.heap.size ≤ k) := Lib.hid (by
                   rintro k (hk | hk)
                   · rcases s5 k hk with h1 | h1
                     · exact AA.out k (.inl h1)
                     · exact Nat.le_trans BR.out.size h1
                   · exact AA.out k (.inr hk))
                 have B5 := Lib.hid (BR.out.trans (o5.to_below AA.out BR.out.size))
                 have F1 := Lib.hid f1
                 have F2 := Lib.hid f2
                 clear p5 s5 o5 f1 f2)
              | (go_at_call 14; refine (same_any Z _ g h hl hw N cl cw S5 m5 P5.out).mono ?_; rintro e w6 ⟨rfl, b6⟩
                 have P6 := Lib.hid (P5.out.below b6)
                 have B6 := Lib.hid (B5.out.trans (b6.mono B5.out.size))
                 clear b6))
            go_roundw
            case rel => exact ⟨i + 1, S5, m5, by go_num, by omega, P6.out, A5.out, B6.out, by have := F1.out; have := C1.out; omega, by have := F2.out; have := C2.out; omega⟩
            case measure => simp [intOf]; omega
      · obtain rfl : i = n := by omega
        have CP := Lib.hid (fun W (d : Z.D W g S N m) => Z.power_any none 0 0 [] d P.out.ok (by have := C2.out; omega) (HasNo.nil W S none) (Nat.le_refl _) (by omega))
        have CQ := Lib.hid (fun W (r : RefD W h hl hw N cl cw m) => rpower_any W h hl hw N cl cw m none 0 0 [] 0 r P.out.ok ⟨rfl, fun h => absurd h (by omega)⟩ (Nat.zero_le _) (fun k hk => absurd hk (by omega)) (by omega))
        have okp := Lib.hid (P.out.ok.power [] (by have := C2.out; omega))
        clear hlt
        go_wp2_with (first
          | (go_at_call 15; refine (readall_any Z _ g h hl hw N cl cw S8 _ P8.out).mono ?_; rintro e w9 ⟨rfl, b9⟩
             have B9 := Lib.hid (B8.out.trans (b9.mono B8.out.size))
             clear b9)
          | (go_at_call 15; refine (readall_any Z _ g h hl hw N cl cw S m P.out).mono ?_; rintro e w6 ⟨rfl, b6⟩
             have P6 := Lib.hid (P.out.below b6)
             have B6 := Lib.hid (BR.out.trans (b6.mono BR.out.size))
             clear b6)
          | (go_at_call 16; refine (CP.out _ P6.out.d).mono ?_; rintro e w7 L7
             obtain ⟨S8, D7, s7⟩ := P6.out.duo.stepD L7
             have B7 := Lib.hid (B6.out.trans (L7.2.2.to_below (fun k hk => AA.out k (.inl hk)) B6.out.size))
             obtain ⟨rfl, _, _⟩ := L7
             have D7 := Lib.hid D7)
          | (go_at_call 17; refine (CQ.out _ D7.out.r).mono ?_; rintro e w8 ⟨rfl, r8, o8⟩
             have D8 := D7.out.stepR r8 o8
             have P8 : Hid (Pair Z w8 g S8 h hl hw N cl cw (m.powerM N [])) := Lib.hid ⟨D8.d, D8.r, D8.dis, okp.out⟩
             have B8 := Lib.hid (B7.out.trans (o8.to_below (fun k hk => AA.out k (.inr hk)) B7.out.size))
             clear r8 o8 D8))
        go_ret
        exact ⟨rfl, B9.out⟩
end Go.Proofs.Ytpnmcdpekfibjaa
