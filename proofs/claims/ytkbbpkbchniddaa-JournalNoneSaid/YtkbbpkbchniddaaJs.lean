/-
  Own work. The journal's sectors: put, number, setTag, tag; tags of rings and headers.
-/
import Derived.Test.YtkbbpkbchniddaaG2
import Derived.Test.YtkbbpkbchniddaaAtp
namespace Go.Proofs.Ytkbbpkbchniddaa
open Go.RowKit
set_option linter.unusedVariables false
set_option linter.unusedSimpArgs false

theorem over_splice (S m : List UInt8) (off : Nat) : splice (cellsB S) off (cellsB m) = cellsB (over S off m) := by
  unfold splice over cellsB
  simp [List.map_take, List.map_drop]
/-- copy(x[off:], b) into a block of bytes known whole. -/
theorem wp_copyB {P : Program} {w : World} {ops : Array Oper} {rest : List Oper} {o : Oper} {a : Act} {Q : Exit → Act → World → Prop} (hgd : o.guard = none) (d s : Operand)
    (ho : o.op = .call { callee := .builtin .copy, args := #[d, s], argTypes := #[39, 39] }) (ht : P.underlying 39 = some (.slice 5)) (hsz : (P.info? 5).map (·.size) = some 1)
    (g off dn dc : Nat) (t : TypeId) (S m : List UInt8) (hB : Bw w g t S) (hd : a.eval d = .slice (some ⟨g, off, none⟩) dn dc) (B : Nat) (A : Option Addr) (n c : Nat) (hs : a.eval s = .slice A n c) (hm : HasB w B A n m) (hle : n ≤ dn) (hfit : off + n ≤ S.length)
    (h : ∀ w', Bw w' g t (over S off m) → Only (fun k => k = g) w w' → wpList P ops Q rest (a.put o.dst (goInt (cellsB m).length)) w') : wpList P ops Q (o :: rest) a w := by
  obtain ⟨hnl, hcell⟩ := hm
  by_cases h0 : m.length = 0
  · obtain rfl : m = [] := List.eq_nil_of_length_eq_zero h0
    refine wpList_copy_nothing hgd d s _ _ ho 5 ht hsz _ _ _ _ _ _ hd hs (by rw [hnl]; simp) ?_
    exact h w (by rw [over_nil]; exact hB) (Only.refl _ _)
  · obtain ⟨g', o', rfl, _, hc⟩ := hcell (by omega)
    refine wpList_copy_own hgd d s _ _ ho 5 ht hsz g off dn dc _ n c hd hs (cellsB S).toArray t hB (cellsB m) (by rw [cellsB_length, ← hnl]; exact (Nat.min_eq_left hle).symm) (fun j v hv => ?_) (by simp [cellsB]; omega) (cellsB_one m) ?_
    · obtain ⟨b, hb, rfl⟩ := cellsB_at hv
      rw [Addr.add_lit]
      exact hc j b hb
    · refine h _ ?_ ((Only.refl _ w).setRow (S := fun k => k = g) rfl _)
      refine (setRow_heap w g _ _ t _ hB).trans ?_
      rw [← over_splice]
      simp [splice]

/-- A call that hands v back and leaves the block g, of bytes, with l. -/
def RetS (w : World) (g : Nat) (l : List UInt8) (e : Ending) (w' : World) : Prop := e = .returned (.tuple #[]) ∧ Bw w' g 97 l ∧ Only (fun k => k = g) w w'
section
variable {w : World} {g : Nat} {s : List UInt8}
theorem hsz1 : (Try.prog.info? 5).map (·.size) = some 1 := by kernel_rfl
set_option maxRecDepth 100000 in
theorem sput_any (p v k : Nat) (h : Bw w g 97 s) (hs : s.length = 512) (hv : v < 18446744073709551616) (hk1 : 1 ≤ k) (hk8 : k ≤ 8) (hfit : v < 256 ^ k) (hp : p + k ≤ 512) :
    Calls Try.prog 96 #[.pointer (some ⟨g, 0, none⟩), .int .i64 (p : Int), .int .u64 (v : Int), .int .i64 (k : Int)] w (RetS w g (over s p (be k v))) := by
  have C := Lib.hid (put_ok none [] 0 0 v k w (HasB.nil _ _ _) (by omega) hv hk1 hk8 hfit)
  have H := Lib.hid h
  have HS := Lib.hid hs
  have hp2 : (p : Int) ≤ 512 := by omega
  have hp3 : ¬ (512 = p) := by omega
  clear h hs hv hfit
  go_enter Try.func96, Try.ntmps96
  go_wp2_with (first
    | (go_at_call 102; refine C.out.mono ?_; rintro e w1 ⟨A1, n1, c1, rfl, own1, b1⟩
       have hn1 := own1.len
       rw [List.nil_append, be_length] at hn1
       subst hn1
       have O1 := Lib.hid own1.has
       have H1 : Hid (Bw w1 g 97 s) := Lib.hid (H.out.below b1 H.out.lt)
       have B1 := Lib.hid b1
       clear own1 b1)
    | (refine wp_copyB rfl (.tmp 19) (.tmp 20) rfl Try.underlying39 hsz1 g p (512 - p) (512 - p) 97 s (be n1 v) H1.out rfl w1.heap.size A1 n1 c1 rfl (by have := O1.out; rwa [List.nil_append] at this) (by omega) (by have := HS.out; omega) ?_
       intro w2 h2 o2))
  go_end0
  exact ⟨rfl, h2, (Only.of_below B1.out (Nat.le_refl _)).trans o2⟩
/-- A call that hands v back and turns nothing. -/
def RetW (w : World) (v : Value) (e : Ending) (w' : World) : Prop := e = .returned v ∧ w = w'
set_option maxRecDepth 100000 in
theorem snum_any (p k : Nat) (h : Bw w g 97 s) (hs : s.length = 512) (hk1 : 1 ≤ k) (hk8 : k ≤ 8) (hp : p + k ≤ 512) :
    Calls Try.prog 76 #[.pointer (some ⟨g, 0, none⟩), .int .i64 (p : Int), .int .i64 (k : Int)] w (RetW w (.int .u64 (num (sub s p k) : Nat))) := by
  have C := Lib.hid (at_ok (some ⟨g, 0, none⟩) s 512 512 p k w (h.has (by omega)) (by omega) (Nat.le_refl _) (by simp only [maxLen]; omega) hk1 hk8 hp)
  obtain ⟨z, hz⟩ : ∃ z, num (sub s p k) = z := ⟨_, rfl⟩
  have hz' : num ((s.drop p).take k) = z := hz
  rw [hz'] at C
  rw [hz]
  clear h hs hz hz'
  go_enter Try.func76, Try.ntmps76
  go_wp2_with (go_at_call 97; refine C.out.mono ?_; rintro e w1 ⟨rfl, rfl⟩)
  go_ret
  exact ⟨rfl, rfl⟩
set_option maxRecDepth 100000 in
theorem sset_any (v : Nat) (h : Bw w g 97 s) (hs : s.length = 512) (hv : v < 18446744073709551616) :
    Calls Try.prog 95 #[.pointer (some ⟨g, 0, none⟩), .int .u64 (v : Int)] w (RetS w g (setTag s v)) := by
  have C1 := Lib.hid (sput_any 0 v 8 h hs hv (by omega) (by omega) (by omega) (by omega))
  have C2 := Lib.hid (fun W (hW : Bw W g 97 (over s 0 (be 8 v))) => sput_any 504 v 8 hW (over_be hs (by omega)) hv (by omega) (by omega) (by omega) (by omega))
  clear h hs hv
  go_enter Try.func95, Try.ntmps95
  go_wp2_with (first
    | (go_at_call 96; refine (C2.out _ H1.out).mono ?_; rintro e w2 ⟨rfl, h2, o2⟩)
    | (go_at_call 96; refine C1.out.mono ?_; rintro e w1 ⟨rfl, h1, o1⟩
       have H1 := Lib.hid h1
       have O1 := Lib.hid o1
       clear h1 o1))
  go_end0
  exact ⟨rfl, h2, O1.out.trans o2⟩
set_option maxRecDepth 100000 in
theorem stag_any (h : Bw w g 97 s) (hs : s.length = 512) :
    Calls Try.prog 77 #[.pointer (some ⟨g, 0, none⟩)] w (RetW w (.int .u64 (tagOf s : Nat))) := by
  have c1 := snum_any 0 8 h hs (by omega) (by omega) (by omega)
  have c2 := snum_any 504 8 h hs (by omega) (by omega) (by omega)
  unfold tagOf
  obtain ⟨x, hx⟩ : ∃ x, num (sub s 0 8) = x := ⟨_, rfl⟩
  obtain ⟨y, hy⟩ : ∃ y, num (sub s 504 8) = y := ⟨_, rfl⟩
  rw [hx] at c1
  rw [hy] at c2
  rw [hx, hy]
  have C1 := Lib.hid c1
  have C2 := Lib.hid c2
  clear c1 c2 hx hy h hs
  by_cases hxy : x = y
  · subst hxy
    rw [if_pos rfl]
    go_enter Try.func77, Try.ntmps77
    go_wp2_with (first
      | (go_at_call_of 76 (Value.int .i64 504); refine C2.out.mono ?_; rintro e w1 ⟨rfl, rfl⟩)
      | (go_at_call 76; refine C1.out.mono ?_; rintro e w1 ⟨rfl, rfl⟩))
    go_ret
    exact ⟨rfl, rfl⟩
  · rw [if_neg hxy]
    have hne : ¬ ((x : Int) = (y : Int)) := by omega
    clear hxy
    go_enter Try.func77, Try.ntmps77
    go_wp2_with (first
      | (go_at_call_of 76 (Value.int .i64 504); refine C2.out.mono ?_; rintro e w1 ⟨rfl, rfl⟩)
      | (go_at_call 76; refine C1.out.mono ?_; rintro e w1 ⟨rfl, rfl⟩))
    go_ret
    exact ⟨rfl, rfl⟩
theorem or_one (t : Nat) (ht : t < 9223372036854775808) : bits .or .u64 ((t : Int) * 2) 1 = ((t * 2 + 1 : Nat) : Int) := by
  rw [bits_join .u64 64 (by decide) wraps_u64 1 ((t : Int) * 2) 1 (by omega) (by omega) (by omega) (by omega) (by omega) (by omega)]
  omega
theorem hdrTag_any (t : Nat) (w : World) (ht : t < 9223372036854775808) :
    Calls Try.prog 78 #[.int .u64 (t : Int)] w (RetW w (.int .u64 ((2 * t + 1 : Nat) : Int))) := by
  go_enter Try.func78, Try.ntmps78
  go_wp2_with fail
  go_ret
  refine ⟨?_, rfl⟩
  rw [show (2 * t + 1 : Nat) = t * 2 + 1 by omega, ← or_one t ht]
  rfl
theorem ringTag_any (t : Nat) (w : World) (ht : t < 9223372036854775808) :
    Calls Try.prog 80 #[.int .u64 (t : Int)] w (RetW w (.int .u64 ((2 * t : Nat) : Int))) := by
  go_enter Try.func80, Try.ntmps80
  go_wp2_with fail
  go_ret
  refine ⟨?_, rfl⟩
  rw [show ((2 * t : Nat) : Int) = (t : Int) * 2 by omega]
  rfl
theorem zc97 : Try.zeroCells97 = (cellsB zsec).toArray := by kernel_rfl
theorem infoJsec : (Try.prog.info? 97).map (·.size) = some 512 := by kernel_rfl
theorem sec_iv {l : List UInt8} (hl : l.length = 512) : (Try.prog.info? 97).map (·.size) = some (cellsB l).toArray.size := by rw [cellsB_size, hl]; exact infoJsec
/-- A whole sector loaded, stored, handed back. -/
theorem load_sec {w : World} {g : Nat} {t : TypeId} {s : List UInt8} (hB : Bw w g t s) (hs : s.length = 512) : (loadVar 97 ⟨g, 0, none⟩).run Try.prog w = .ok (.agg (cellsB s).toArray) w :=
  run_loadVar_row w g t _ _ (0, 0) _ hB Try.underlying97 rfl (sec_iv hs)
theorem wp_load_sec {w : World} {ops : Array Oper} {rest : List Oper} {o : Oper} {a : Act} {Q : Exit → Act → World → Prop} (hgd : o.guard = none) (x : Operand) (ho : o.op = .load 97 x)
    (g : Nat) (hx : a.eval x = .pointer (some ⟨g, 0, none⟩)) (t : TypeId) (s : List UInt8) (hB : Bw w g t s) (hs : s.length = 512) (h : wpList Try.prog ops Q rest (a.put o.dst (.agg (cellsB s).toArray)) w) : wpList Try.prog ops Q (o :: rest) a w :=
  wpList_load_row hgd _ x ho g hx t _ (0, 0) _ hB Try.underlying97 rfl (sec_iv hs) h
theorem wp_store_sec {w : World} {ops : Array Oper} {rest : List Oper} {o : Oper} {a : Act} {Q : Exit → Act → World → Prop} (hgd : o.guard = none) (x y : Operand) (ho : o.op = .store 97 x y)
    (g : Nat) (s : List UInt8) (hx : a.eval x = .pointer (some ⟨g, 0, none⟩)) (hy : a.eval y = .agg (cellsB s).toArray) (t : TypeId) (old : List UInt8) (hB : Bw w g t old) (ho' : old.length = 512) (hs : s.length = 512)
    (h : ∀ w', Bw w' g t s → Only (fun k => k = g) w w' → wpList Try.prog ops Q rest (a.put o.dst undef) w') : wpList Try.prog ops Q (o :: rest) a w :=
  wpList_store_row hgd _ x y ho g _ hx hy t _ hB (sec_iv hs) (by rw [cellsB_size, cellsB_size, ho', hs]) (cellsB_ones s) (h _ hB.row ((Only.refl _ w).setRow (S := fun k => k = g) rfl _))
theorem res_sec {fn : Func} {p : Tmp} (h : fn.results = #[.cell p 97]) (tmps : Array Value) {w : World} {g : Nat} {t : TypeId} {s : List UInt8} (hp : tmps.getD p undef = .pointer (some ⟨g, 0, none⟩)) (hB : Bw w g t s) (hs : s.length = 512) :
    (results fn tmps).run Try.prog w = .ok (.agg (cellsB s).toArray) w :=
  results_cell_row h tmps w g t _ (0, 0) _ hp hB Try.underlying97 rfl (sec_iv hs)
end
end Go.Proofs.Ytkbbpkbchniddaa
