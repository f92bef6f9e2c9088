/-
  Own work. The program's frames: Size, checkOf, Put, endOf, Take.
-/
import Derived.Test.YtadagbkfemcgfaaCc
import Derived.Test.YtadagbkfemcgfaaO1
import Derived.Test.YtadagbkfemcgfaaAtp
import Derived.Test.YtadagbkfemcgfaaFk
import Derived.Test.YtadagbkfemcgfaaIb
import Derived.Test.YtadagbkfemcgfaaFr
namespace Go.Proofs.Ytadagbkfemcgfaa
open Go.RowKit
set_option linter.unusedVariables false
set_option linter.unusedSimpArgs false

theorem fsize_any (w : World) (n : Int) (hn : -9223372036854775808 ≤ n ∧ n ≤ 9223372036854775807) : Calls Try.prog 13 #[.int .i64 n] w fun e w' => e = .returned (.int .i64 (fsz n)) ∧ w = w' := by
  obtain ⟨h1, h2⟩ := hn
  by_cases hlo : n < 0
  · rw [show fsz n = 0 from if_pos (.inl hlo)]
    go_enter Try.func13, Try.ntmps13
    go_wp2_with fail
    go_ret
    exact ⟨rfl, rfl⟩
  · by_cases hhi : 4200 < n
    · rw [show fsz n = 0 from if_pos (.inr hhi)]
      go_enter Try.func13, Try.ntmps13
      go_wp2_with fail
      go_ret
      exact ⟨rfl, rfl⟩
    · rw [show fsz n = 46 + n from if_neg (by omega)]
      go_enter Try.func13, Try.ntmps13
      go_wp2_with fail
      go_ret
      exact ⟨rfl, rfl⟩

/-! ### Eight bytes as an array -/
theorem infoCk : (Try.prog.info? 67).map (·.size) = some 8 := by kernel_rfl
theorem ck_iv (l : List UInt8) (hl : l.length = 8) : (Try.prog.info? 67).map (·.size) = some (cellsB l).toArray.size := by rw [cellsB_size, hl]; exact infoCk
theorem ck_hz (l : List UInt8) (hl : l.length = 8) : (cellsB (zer 8)).toArray.size = (cellsB l).toArray.size := by rw [cellsB_size, cellsB_size, hl, zer_len]
theorem Bw.loadCk {w : World} {g : Nat} {l : List UInt8} (h : Bw w g 67 l) (hl : l.length = 8) : (loadVar 67 ⟨g, 0, none⟩).run Try.prog w = .ok (.agg (cellsB l).toArray) w :=
  run_loadVar_row w g _ 67 _ (0, 0) _ h Try.underlying67 rfl (by rw [cellsB_size, hl]; exact infoCk)
theorem HasB.load_ckAt {w : World} {B n g o k : Nat} {l : List UInt8} (h : HasB w B (some ⟨g, o, none⟩) n l) (hk : k + 8 ≤ n) : (loadVar 67 ⟨g, o + k, none⟩).run Try.prog w = .ok (.agg (cellsB ((l.drop k).take 8)).toArray) w := by
  have hl := h.len
  have hlen : ((l.drop k).take 8).length = 8 := by rw [List.length_take, List.length_drop]; omega
  obtain ⟨g', o', e, _, hc⟩ := h.2 (by omega)
  simp only [Option.some.injEq, Addr.mk.injEq, and_true] at e
  obtain ⟨rfl, rfl⟩ := e
  have hc' : (loadCells ⟨g, o + k, none⟩ (cellsB ((l.drop k).take 8)).length).run Try.prog w = .ok (cellsB ((l.drop k).take 8)).toArray w :=
    run_loadCells_list (P := Try.prog) w ⟨g, o + k, none⟩ (cellsB ((l.drop k).take 8)) (fun j v hv => by
      obtain ⟨b, hb, rfl⟩ := cellsB_at hv
      rw [Addr.add_lit]
      show w.cell? ⟨g, o + k + j, none⟩ = _
      rw [Nat.add_assoc]
      refine hc (k + j) b ?_
      rw [List.getElem?_take] at hb
      split at hb
      · rw [List.getElem?_drop] at hb; exact hb
      · cases hb)
  rw [cellsB_length, hlen] at hc'
  have hi := infoCk
  cases hq : Try.prog.info? 67 with
  | none => simp [hq] at hi
  | some i =>
    have hs : i.size = 8 := by simpa [hq] using hi
    have hagg : (isAgg 67).run Try.prog w = .ok true w := by
      unfold isAgg
      rw [Sem.run_bind, run_underlying Try.underlying67 w]
      rfl
    simp [loadVar, Sem.run_bind, hagg, sizeOf, typeInfo, hq, hs, hc']
theorem eql_ck (l m : List UInt8) (hl : l.length = 8) (hm : m.length = 8) (w : World) :
    (binOp .eql 67 (.agg (cellsB l).toArray) (.agg (cellsB m).toArray)).run Try.prog w = .ok (.bool (decide (l = m))) w := by
  have c : Try.prog.cellsOf 67 = 8 := by kernel_rfl
  have := eql_ints (P := Try.prog) Try.underlying67 Try.underlying5 c (by kernel_rfl) (by kernel_rfl) (fun cs hcs => by
    unfold Value.formed
    simp only [Try.underlying67, hcs, c]
    rfl) (l.map fun x => (x.toNat : Int)) (m.map fun x => (x.toNat : Int)) (by simp [hl]) (by simp [hm]) (wf_u8 l) (wf_u8 m) w
  rw [← bytes_ints, ← bytes_ints] at this
  have e : (decide (l.map (fun x => (x.toNat : Int)) = m.map (fun x => (x.toNat : Int)))) = decide (l = m) := decide_eq_decide.2 ⟨bytes_inj, fun h => by rw [h]⟩
  rw [this, e]
theorem neq_ck (l m : List UInt8) (hl : l.length = 8) (hm : m.length = 8) (w : World) :
    (binOp .neq 67 (.agg (cellsB l).toArray) (.agg (cellsB m).toArray)).run Try.prog w = .ok (.bool (!decide (l = m))) w := by
  have h := eql_ck l m hl hm w
  simp only [binOp, Sem.run_bind] at h ⊢
  revert h
  cases (Op.equal 67 (.agg (cellsB l).toArray) (.agg (cellsB m).toArray)).run Try.prog w with
  | ok r w' =>
    intro h
    simp only [Result.andThen_ok, Sem.run_pure, Result.ok.injEq, Value.bool.injEq] at h
    obtain ⟨rfl, rfl⟩ := h
    rfl
  | _ => intro h; simp [Result.andThen] at h
theorem guard_neq_ck (xs ys : Array Value) (x y : Operand) (w : World) : (eqGuard .neq 67 x y (.agg xs) (.agg ys)).run Try.prog w = .ok () w := by
  unfold eqGuard
  simp

/-! ### checkOf -/
theorem of_two8 {W : World} {A B : Option Addr} {n m c d : Nat} {a b : List UInt8} (ha : HasB W W.heap.size A n a) (hb : HasB W W.heap.size B m b) (hc : n ≤ c) (hd : m ≤ d) (hn : n ≤ 8192) (hm : m ≤ 8192) :
    Calls Try.prog 61 #[.slice (some ⟨W.heap.size, 0, none⟩) 2 2] (W.alloc (.cells #[.slice A n c, .slice B m d] 24)) (RetID (W.alloc (.cells #[.slice A n c, .slice B m d] 24)) (sumS (a ++ b))) := by
  have := of_any _ 2 2 [a, b] _ (has_two ha hb hc hd) (by omega) (by have := ha.len; have := hb.len; simp; omega)
  simpa using this
set_option maxRecDepth 100000 in
set_option maxHeartbeats 2000000 in
theorem check_any (w : World) (A : Option Addr) (n c : Nat) (key l : List UInt8) (h : HasB w w.heap.size A n l) (hc : n ≤ c) (hn : n ≤ 4200) (hk : key.length = 32) :
    Calls Try.prog 32 #[.agg (cellsB key).toArray, .slice A n c] w fun e w' => e = .returned (.agg (cellsB (frS key l)).toArray) ∧ Below w.heap.size w w' := by
  obtain ⟨S, hS⟩ : ∃ S, sumS (key ++ l) = S := ⟨_, rfl⟩
  have hsl : S.length = 32 := by rw [← hS]; exact sum_len _
  have FR : Hid (frS key l = S.take 8) := Lib.hid (by rw [← hS]; rfl)
  obtain ⟨W1, hW1⟩ : ∃ W1, (w.alloc (.cells (cellsB key).toArray 23)).alloc (.cells (cellsB (zer 8)).toArray 67) = W1 := ⟨_, rfl⟩
  have hb1 : Below w.heap.size w W1 := by rw [← hW1]; exact ((Below.refl _ w).alloc (Nat.le_refl _) _).alloc (by simp) _
  have hbs : W1.heap.size = w.heap.size + 2 := by rw [← hW1]; simp
  have hkey : Bw W1 w.heap.size 23 key := by rw [← hW1]; exact (Bw.new w key _).alloc _
  have hz : Bw W1 (w.heap.size + 1) 67 (zer 8) := by
    rw [← hW1]
    have := Bw.new (w.alloc (.cells (cellsB key).toArray 23)) (zer 8) 67
    simpa using this
  have CO := Lib.hid (of_two8 (hkey.has hk.symm) (h.on hb1) (Nat.le_refl 32) hc (by omega) (by omega))
  rw [hS] at CO
  have SL := Lib.hid hsl
  have HW := Lib.hid hW1
  have B1 := Lib.hid hb1
  have ZC := Lib.hid hz
  have ZL := Lib.hid hz.lt
  have IV := Lib.hid (id_iv S hsl)
  have IZ := Lib.hid (id_hz S hsl)
  have S8 : Hid ((S.take 8).length = 8) := Lib.hid (by rw [List.length_take, hsl]; rfl)
  have CV := Lib.hid (ck_iv (S.take 8) S8.out)
  have CZ := Lib.hid (ck_hz (S.take 8) S8.out)
  clear hS hsl hW1 hb1 hbs hkey hz h hk
  go_enter Try.func32, Try.ntmps32
  go_upto_region 1 with fail
  rw [show (w.alloc (.cells (cellsB key).toArray 23)).alloc (.cells #[.int .u8 0, .int .u8 0, .int .u8 0, .int .u8 0, .int .u8 0, .int .u8 0, .int .u8 0, .int .u8 0] 67) = W1 from HW.out]
  go_upto_region 2 with (first
    | (go_at_call 61; refine CO.out.mono ?_; rintro e w2 ⟨rfl, b2⟩
       have b2' : Below W1.heap.size W1 w2 := ((Below.refl _ W1).alloc (Nat.le_refl _) _).trans (b2.mono (by simp))
       have Z2 := Lib.hid (ZC.out.below b2' ZL.out)
       have B2 := Lib.hid (B1.out.trans (b2'.mono B1.out.size))
       clear b2 b2')
    | (refine wpList_store_row rfl 23 (.tmp 5) (.tmp 9) rfl w2.heap.size (cellsB S).toArray rfl rfl 23 _ (Bw.new w2 (zer 32) 23) IV.out IZ.out (cellsB_ones _) ?_))
  generalize hw3 : World.setRow _ _ _ = w3
  have hsum : Bw w3 w2.heap.size 23 S := by rw [← hw3]; exact box_id w2 S
  have hb3 : Below w2.heap.size w2 w3 := by rw [← hw3]; exact box_below w2 S
  have LD := Lib.hid ((hsum.has SL.out.symm).load_ckAt (k := 0) (by omega))
  rw [List.drop_zero] at LD
  have Z3 := Lib.hid (Z2.out.below hb3 Z2.out.lt)
  have B3 := Lib.hid (B2.out.trans (hb3.mono B2.out.size))
  clear hw3 hsum hb3
  go_wp2_with (first
    | (refine wpList_arrayAt rfl 67 _ 8 (.tmp 10) rfl Try.underlying67 _ _ _ rfl (Nat.le_refl _) ?_)
    | (refine wpList_load_at rfl 67 (.tmp 11) rfl ⟨w2.heap.size, 0, none⟩ rfl _ LD.out ?_)
    | (refine wpList_store_row rfl 67 (.tmp 4) (.tmp 12) rfl (w.heap.size + 1) (cellsB (S.take 8)).toArray rfl rfl 67 _ Z3.out CV.out CZ.out (cellsB_ones _) ?_))
  refine bodyPost_ret (v := .agg (cellsB (S.take 8)).toArray) ?_ (by rfl) ?_
  · exact results_cell_row (p := 4) (ty := 67) rfl _ _ (w.heap.size + 1) 67 (cellsB (S.take 8)).toArray _ _ rfl (setRow_heap _ _ _ _ 67 _ Z3.out) Try.underlying67 rfl CV.out
  · rw [FR.out]
    exact ⟨rfl, below_setRow B3.out (by omega) _⟩
end Go.Proofs.Ytadagbkfemcgfaa
