/-
  Own work. The journal's changes in memory; header.
-/
import Derived.Test.YtkbbpkbchniddaaJh
namespace Go.Proofs.Ytkbbpkbchniddaa
open Go.RowKit
set_option linter.unusedVariables false
set_option linter.unusedSimpArgs false

def chC (c : Ch) : List Value := .int .i64 (c.home : Int) :: cellsB c.data
def rowC (l : List Ch) : List Value := l.flatMap chC
/-- Changes that may be: their sectors are whole. -/
def ChOk (l : List Ch) : Prop := ∀ c ∈ l, c.data.length = 512
theorem chC_len {c : Ch} (h : c.data.length = 512) : (chC c).length = 513 := by simp [chC, cellsB_length, h]
theorem chC_one (c : Ch) : ∀ v ∈ chC c, v.oneCell' = true := by
  intro v hv
  unfold chC at hv
  rcases List.mem_cons.1 hv with rfl | hv
  · rfl
  · exact cellsB_one _ v hv
theorem rowC_snoc (l : List Ch) (c : Ch) : rowC (l ++ [c]) = rowC l ++ chC c := by simp [rowC]
theorem rowC_len {l : List Ch} (h : ChOk l) : (rowC l).length = l.length * 513 := by
  induction l with
  | nil => rfl
  | cons c r ih =>
    have h1 : rowC (c :: r) = chC c ++ rowC r := by simp [rowC]
    rw [h1, List.length_append, chC_len (h c (by simp)), ih (fun d hd => h d (by simp [hd])), List.length_cons]
    omega
theorem rowC_sub : ∀ {l : List Ch}, ChOk l → ∀ {k : Nat} {c : Ch}, l[k]? = some c → ∀ j v, (chC c)[j]? = some v → (rowC l)[k * 513 + j]? = some v
  | [], _, k, c, h, _, _, _ => by simp at h
  | d :: r, hs, 0, c, h, j, v, hv => by
    simp only [List.getElem?_cons_zero, Option.some.injEq] at h
    subst h
    have h1 : rowC (d :: r) = chC d ++ rowC r := by simp [rowC]
    rw [h1, Nat.zero_mul, Nat.zero_add, List.getElem?_append_left (List.getElem?_eq_some_iff.1 hv).1]
    exact hv
  | d :: r, hs, k + 1, c, h, j, v, hv => by
    have h1 : rowC (d :: r) = chC d ++ rowC r := by simp [rowC]
    have h2 : (chC d).length = 513 := chC_len (hs d (by simp))
    rw [h1, List.getElem?_append_right (by omega), h2, show (k + 1) * 513 + j - 513 = k * 513 + j by omega]
    exact rowC_sub (fun e he => hs e (by simp [he])) (by simpa using h) j v hv
/-- A row of changes at the head of a block. -/
def CB (w : World) (g : Nat) (l : List Ch) : Prop := ∃ E : List Value, w.heap[g]? = some (.cells (rowC l ++ E).toArray 132 (0, 0))
theorem CB.lt {w : World} {g : Nat} {l : List Ch} (h : CB w g l) : g < w.heap.size := by
  obtain ⟨E, h⟩ := h
  exact (Array.getElem?_eq_some_iff.1 h).1
theorem CB.only {w w' : World} {S : Nat → Prop} {g : Nat} {l : List Ch} (h : CB w g l) (ho : Only S w w') (hg : ¬ S g) : CB w' g l := by
  have := h.lt
  obtain ⟨E, h⟩ := h
  exact ⟨E, (ho.block g this hg).trans h⟩
theorem CB.below {w w' : World} {B g : Nat} {l : List Ch} (h : CB w g l) (hb : Below B w w') (hg : g < B) : CB w' g l := by
  obtain ⟨E, h⟩ := h
  exact ⟨E, (hb.block g hg).trans h⟩
theorem infoCh : (Try.prog.info? 132).map (·.size) = some 513 := by kernel_rfl
theorem zcCh : Try.zeroCells132.size = 513 := by kernel_rfl
theorem CB.load {w : World} {g k : Nat} {l : List Ch} {c : Ch} (h : CB w g l) (hl : ChOk l) (hk : l[k]? = some c) : (loadVar 132 ⟨g, k * 513, none⟩).run Try.prog w = .ok (.agg (chC c).toArray) w := by
  obtain ⟨E, h⟩ := h
  have hc : c.data.length = 512 := hl c (List.mem_of_getElem? hk)
  refine run_loadVar_part w g (k * 513) _ _ _ (chC c) (0, 0) _ h Try.underlying132 rfl (by rw [chC_len hc]; exact infoCh) (fun j v hv => ?_)
  have h2 := rowC_sub hl hk j v hv
  rw [List.getElem?_append_left (List.getElem?_eq_some_iff.1 h2).1]
  exact h2
/-- One change in a block of its own. -/
def Cb1 (w : World) (g : Nat) (c : Ch) : Prop := w.heap[g]? = some (.cells (chC c).toArray 132 (0, 0))
theorem Cb1.lt {w : World} {g : Nat} {c : Ch} (h : Cb1 w g c) : g < w.heap.size := (Array.getElem?_eq_some_iff.1 h).1
theorem Cb1.only {w w' : World} {S : Nat → Prop} {g : Nat} {c : Ch} (h : Cb1 w g c) (ho : Only S w w') (hg : ¬ S g) : Cb1 w' g c := (ho.block g h.lt hg).trans h
theorem Cb1.below {w w' : World} {B g : Nat} {c : Ch} (h : Cb1 w g c) (hb : Below B w w') (hg : g < B) : Cb1 w' g c := (hb.block g hg).trans h
theorem Cb1.home {w : World} {g : Nat} {c : Ch} (h : Cb1 w g c) : w.cell? ⟨g, 0, none⟩ = some (.int .i64 (c.home : Int)) := cell_of_row w g 0 _ _ (0, 0) h
theorem Cb1.has {w : World} {g k : Nat} {c : Ch} (h : Cb1 w g c) (hk : k ≤ c.data.length) : HasB w w.heap.size (some ⟨g, 1, none⟩) k (c.data.take k) := by
  refine ⟨by rw [List.length_take]; omega, fun _ => ⟨g, 1, rfl, h.lt, fun i b hb => ?_⟩⟩
  rw [cell_of_row w g (1 + i) _ _ (0, 0) h]
  rw [List.getElem?_take] at hb
  split at hb
  · unfold chC cellsB
    rw [List.getElem?_toArray, Nat.add_comm 1 i, List.getElem?_cons_succ, List.getElem?_map, hb]
    rfl
  · cases hb
theorem Cb1.sec {w : World} {g : Nat} {c : Ch} (h : Cb1 w g c) (hc : c.data.length = 512) : (loadVar 97 ⟨g, 1, none⟩).run Try.prog w = .ok (.agg (cellsB c.data).toArray) w := by
  refine run_loadVar_part w g 1 _ _ _ (cellsB c.data) (0, 0) _ h Try.underlying97 rfl (by rw [cellsB_length, hc]; exact infoJsec) (fun j v hv => ?_)
  unfold chC
  rw [Nat.add_comm 1 j, List.getElem?_cons_succ]
  exact hv
theorem wp_store_ch {w : World} {ops : Array Oper} {rest : List Oper} {o : Oper} {a : Act} {Q : Exit → Act → World → Prop} (hgd : o.guard = none) (x y : Operand) (ho : o.op = .store 132 x y)
    (g : Nat) (c : Ch) (hx : a.eval x = .pointer (some ⟨g, 0, none⟩)) (hy : a.eval y = .agg (chC c).toArray) (old : Array Value) (hB : w.heap[g]? = some (.cells old 132 (0, 0))) (ho' : old.size = 513) (hc : c.data.length = 512)
    (h : ∀ w', Cb1 w' g c → Only (fun k => k = g) w w' → wpList Try.prog ops Q rest (a.put o.dst undef) w') : wpList Try.prog ops Q (o :: rest) a w :=
  wpList_store_row hgd _ x y ho g _ hx hy _ _ hB (by rw [@List.size_toArray _ (chC c), chC_len hc]; exact infoCh) (show old.size = (chC c).toArray.size by rw [@List.size_toArray _ (chC c), chC_len hc]; exact ho') (by rw [Array.all_eq_true]; intro i hi; exact chC_one c _ (by simp)) (h _ (setRow_heap w g _ _ _ _ hB) ((Only.refl _ w).setRow (S := fun k => k = g) rfl _))

/-- A load whose run is known. -/
theorem wp_loadA {P : Program} {ops : Array Oper} {rest : List Oper} {o : Oper} {a : Act} {w : World} {Q : Exit → Act → World → Prop} (hw : Region.wanted o (yielded ops a.tmps) = true) (ty : TypeId) (x : Operand) (ho : o.op = .load ty x)
    (ad : Addr) (hx : a.eval x = .pointer (some ad)) (v : Value) (hl : (loadVar ty ad).run P w = .ok v w) (h : wpList P ops Q rest (a.put o.dst v) w) : wpList P ops Q (o :: rest) a w := by
  refine BigFrame.wpList_want hw fun K hK => ?_
  unfold Oper.wp execOp
  simp only [ho, hx, Instr.loadAt, Instr.sureAddr, Sem.run_bind, Sem.run_pure, Result.andThen_ok, hl]
  exact hK _ _ h
set_option maxRecDepth 100000 in
set_option maxHeartbeats 1000000 in
theorem header_any (t gl n cl : Nat) (l : List Ch) (w : World) (ht : t < 9223372036854775808) (h : CB w gl l) (hok : ChOk l) (hn : n = l.length) (hn1 : n ≤ 40) (hh : ∀ c ∈ l, c.home < 4294967296) :
    Calls Try.prog 83 #[.int .u64 (t : Int), .slice (some ⟨gl, 0, none⟩) n cl] w (RetSec w (hdr t l)) := by
  obtain ⟨w0, hw0⟩ : ∃ w0, (w.alloc (.cells (cellsB zsec).toArray 97)).alloc (.cells (cellsB zsec).toArray 97) = w0 := ⟨_, rfl⟩
  have hb : Below w.heap.size w w0 := by rw [← hw0]; exact ((Below.refl _ _).alloc (Nat.le_refl _) _).alloc (by simp) _
  have h1 : Bw w0 w.heap.size 97 zsec := by rw [← hw0]; exact (Bw.new w zsec _).alloc _
  have h2 : Bw w0 (w.heap.size + 1) 97 zsec := by rw [← hw0]; exact bw_second w zsec zsec _ _
  have hgl := h.lt
  have C1 := Lib.hid (hdrTag_any t w0 ht)
  have l1 : (setTag zsec (2 * t + 1)).length = 512 := setTag_len zsec_len
  have C2 := Lib.hid (sset_any (2 * t + 1) h2 zsec_len (by omega))
  have e0 : over (setTag zsec (2 * t + 1)) 8 (be 2 n) = hdrK t l 0 := by rw [hn]; rfl
  have C3 : Hid (∀ W, Bw W (w.heap.size + 1) 97 (setTag zsec (2 * t + 1)) → Calls Try.prog 96 #[.pointer (some ⟨w.heap.size + 1, 0, none⟩), .int .i64 8, .int .u64 (n : Int), .int .i64 2] W (RetS W (w.heap.size + 1) (hdrK t l 0))) := Lib.hid (fun W hW => by
    have := sput_any 8 n 2 hW l1 (by omega) (by omega) (by omega) (by omega) (by omega)
    rwa [e0] at this)
  obtain ⟨T0, hT0⟩ : ∃ T0, setTag zsec (2 * t + 1) = T0 := ⟨_, rfl⟩
  obtain ⟨t1, ht1⟩ : ∃ t1, 2 * t + 1 = t1 := ⟨_, rfl⟩
  rw [hT0] at C2 C3
  rw [ht1] at C1 C2
  have HN := Lib.hid hn
  have HC := Lib.hid h
  have HOK := Lib.hid hok
  have HH := Lib.hid hh
  have H1 := Lib.hid h1
  have B0 := Lib.hid hb
  have W0 := Lib.hid hw0
  clear h hok hn hh h1 h2 hb hw0 l1 e0 hT0 ht1
  go_enter Try.func83, Try.ntmps83
  go_upto_region 2 with fail
  rw [zc97, W0.out]
  go_wp2_with (first
    | (go_at_call 78; refine C1.out.mono ?_; rintro e w1 ⟨rfl, rfl⟩)
    | (go_at_call 95; refine C2.out.mono ?_; rintro e w1 ⟨rfl, q1, o1⟩
       have Q1 := Lib.hid q1
       have O1 := Lib.hid o1
       clear q1 o1)
    | (go_at_call 96; refine (C3.out _ Q1.out).mono ?_; rintro e w2 ⟨rfl, q2, o2⟩
       have Q2 := Lib.hid q2
       have O2 := Lib.hid (O1.out.trans o2)
       clear q2 o2))
  have QW : Hid (Below w.heap.size w w2) := Lib.hid (B0.out.trans (O2.out.to_below (fun k hk => by omega) B0.out.size))
  have H12 := Lib.hid (H1.out.keepO O2.out (by omega))
  clear C1 C2 C3 H1
  go_loopw [18] (fun i wr => ∃ k : Nat, k ≤ n ∧ i = .int .i64 (k : Int) ∧ Bw wr (w.heap.size + 1) 97 (hdrK t l k) ∧ Bw wr w.heap.size 97 zsec ∧ Below w.heap.size w wr) (fun i _ => n - (intOf i).toNat)
  case atStart => exact ⟨0, by omega, rfl, Q2.out, H12.out, QW.out⟩
  case round =>
    obtain ⟨k, hk, rfl, q, qz, qb⟩ := hrel
    by_cases hlt : k < n
    · obtain ⟨c, hc⟩ : ∃ c, l[k]? = some c := ⟨_, List.getElem?_eq_getElem (by have := HN.out; omega)⟩
      have hcl : c.data.length = 512 := HOK.out c (List.mem_of_getElem? hc)
      have hch : c.home < 4294967296 := HH.out c (List.mem_of_getElem? hc)
      have hgd : l.getD k ⟨0, []⟩ = c := by rw [List.getD_eq_getElem?_getD, hc]; rfl
      have hs : hdrK t l (k + 1) = over (over (hdrK t l k) (16 + 12 * k) (be 4 c.home)) (16 + 12 * k + 4) (c.data.take 8) := by rw [hdrK_succ, hgd]
      have lk := hdrK_len t l k (by omega)
      have ld := (HC.out.below qb hgl).load HOK.out hc
      obtain ⟨K0, hK0⟩ : ∃ K0, hdrK t l k = K0 := ⟨_, rfl⟩
      obtain ⟨p, hp⟩ : ∃ p, 16 + 12 * k = p := ⟨_, rfl⟩
      have hp0 : p + 12 ≤ 512 := by omega
      have hp2 : (16 : Int) + 12 * (k : Int) = (p : Int) := by omega
      rw [hK0] at q lk hs
      rw [hp] at hs
      have l2 : (over K0 p (be 4 c.home)).length = 512 := over_be lk (by omega)
      have hwr : w.heap.size + 1 < wr.heap.size := q.lt
      have LD := Lib.hid ld
      have ZN := Lib.hid (heap_alloc_new wr (.cells Try.zeroCells132 132))
      have Q0 := Lib.hid q
      have QZ := Lib.hid qz
      have QB := Lib.hid qb
      have HCL := Lib.hid hcl
      have HCH := Lib.hid hch
      have L2 := Lib.hid l2
      have LK := Lib.hid lk
      have HS := Lib.hid hs
      clear ld q qz qb hcl hch hc hgd hs lk l2 hK0 hp
      go_upto_region 7 with (first
        | (refine wp_loadA rfl _ (.tmp 21) rfl ⟨gl, k * 513, none⟩ rfl _ LD.out ?_)
        | (refine wp_store_ch rfl (.tmp 7) (.tmp 22) rfl wr.heap.size c rfl rfl _ ZN.out zcCh HCL.out ?_; intro w5 q5 o5
           have Q5 := Lib.hid q5
           have O5 := Lib.hid (((Below.refl _ wr).alloc (Nat.le_refl _) _).trans (o5.to_below (B := wr.heap.size) (fun k hk => by omega) (by simp)))
           clear q5 o5))
      have k5 := Q5.out.home
      have Q05 := Lib.hid (Q0.out.below O5.out Q0.out.lt)
      have C4 := Lib.hid (sput_any p c.home 4 Q05.out LK.out (Nat.lt_trans HCH.out (by omega)) (by omega) (by omega) (by have := HCH.out; omega) (by omega))
      obtain ⟨hm, hhm⟩ : ∃ hm, c.home = hm := ⟨_, rfl⟩
      rw [hhm] at k5 C4 HS L2
      have hm1 : hm < 4294967296 := by rw [← hhm]; exact HCH.out
      clear hhm
      obtain ⟨K1, hK1⟩ : ∃ K1, over K0 p (be 4 hm) = K1 := ⟨_, rfl⟩
      rw [hK1] at C4 HS L2
      clear hK1
      go_upto_region 9 with (go_at_call 96; refine C4.out.mono ?_; rintro e w6 ⟨rfl, q6, o6⟩
                             have Q6 := Lib.hid q6
                             have Q56 := Lib.hid (Q5.out.only o6 (by omega))
                             have O6 := Lib.hid o6
                             clear q6 o6)
      have p1 : ((p : Int) + 4) ≤ 512 := by omega
      have p2 : ¬ (512 = p + 4) := by omega
      have p3 : IntKind.i64.wrap ((p : Int) + 4) = (p : Int) + 4 := by rw [IntKind.wrap_i64]; omega
      have p4 : ((p : Int) + 4).toNat = p + 4 := by omega
      have p5 : (0 : Int) ≤ (p : Int) + 4 := by omega
      have S8 : Hid (HasB w6.drew w6.drew.heap.size (some ⟨wr.heap.size, 1, none⟩) 8 (c.data.take 8)) := Lib.hid (Cb1.has (w := w6.drew) Q56.out (by rw [HCL.out]; omega))
      have Q6d : Hid (Bw w6.drew (w.heap.size + 1) 97 K1) := Lib.hid Q6.out
      have b5 : Below w.heap.size w w5 := QB.out.trans (O5.out.mono QB.out.size)
      have W6 : Hid (Below w.heap.size w w6) := Lib.hid (b5.trans (O6.out.to_below (fun k hk => by omega) b5.size))
      clear b5
      have qz6 : Bw w6 w.heap.size 97 zsec := (QZ.out.below O5.out QZ.out.lt).keepO O6.out (by omega)
      have QZ6 : Hid (Bw w6.drew w.heap.size 97 zsec) := Lib.hid qz6
      clear qz6
      go_still_tail 5, (by kernel_rfl)
      change wpList _ _ _ _ _ w6.drew
      go_wp2_with (refine wp_copyB rfl (.tmp 33) (.tmp 35) rfl Try.underlying39 hsz1 (w.heap.size + 1) (p + 4) (508 - p) (508 - p) _ K1 (c.data.take 8) Q6d.out rfl _ _ 8 512 rfl S8.out (by omega) (by rw [L2.out]; omega) ?_; intro w7 q7 o7
                   rw [← HS.out] at q7
                   have Q7 := Lib.hid q7
                   have O7 := Lib.hid o7
                   clear q7 o7)
      go_roundw
      case rel => exact ⟨k + 1, by omega, by go_num, Q7.out, QZ6.out.keepO O7.out (by omega), W6.out.drew.trans (O7.out.to_below (fun k hk => by omega) (by have := W6.out.size; exact this))⟩
      case measure => simp [intOf]; omega
    · obtain rfl : k = n := by omega
      have Q0 := Lib.hid q
      have QZ := Lib.hid qz
      have QB := Lib.hid qb
      have HD : Hid (hdrK t l k = hdr t l) := Lib.hid (by rw [HN.out]; rfl)
      have HL : Hid ((hdrK t l k).length = 512) := Lib.hid (hdrK_len t l k hn1)
      obtain ⟨y, hy⟩ : ∃ y, hdrK t l k = y := ⟨_, rfl⟩
      rw [hy] at Q0 HD HL
      clear q qz qb hy
      go_wp2_with (first
        | (refine wp_load_sec rfl (.tmp 5) rfl (w.heap.size + 1) rfl _ y Q0.out HL.out ?_)
        | (refine wp_store_sec rfl (.tmp 4) (.tmp 38) rfl w.heap.size y rfl rfl _ zsec QZ.out zsec_len HL.out ?_; intro w8 h8 o8))
      refine bodyPost_ret (v := .agg (cellsB y).toArray) (res_sec (p := 4) rfl _ rfl h8 HL.out) (by rfl) ?_
      exact ⟨by rw [HD.out], QB.out.trans (o8.to_below (fun k hk => by omega) QB.out.size)⟩
end Go.Proofs.Ytkbbpkbchniddaa
