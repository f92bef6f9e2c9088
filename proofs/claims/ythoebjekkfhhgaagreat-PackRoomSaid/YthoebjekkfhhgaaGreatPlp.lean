/-
  Own work.
-/
import Derived.Test.YthoebjekkfhhgaaGreatCp9
import Derived.Test.YthoebjekkfhhgaaGreatPlo
set_option linter.unusedVariables false
set_option linter.unusedSimpArgs false
set_option maxRecDepth 100000
set_option maxHeartbeats 8000000
namespace Go.Proofs.YthoebjekkfhhgaaGreat
open Go.RowKit Go.Maps
theorem least_of {p : Nat -> Prop} : ∀ n, p n -> ∃ k, k <= n /\ p k /\ ∀ j, j < k -> ¬ p j := fun n => by
 induction n using Nat.strongRecOn with
 | ind n ih =>
   intro h
   by_cases e : ∃ j, j < n /\ p j
   · obtain ⟨j, hj, hp⟩ := e
     obtain ⟨k, h1, h2, h3⟩ := ih j hj hp
     exact ⟨k, by omega, h2, h3⟩
   · exact ⟨n, Nat.le_refl _, h, fun j hj hp => e ⟨j, hj, hp⟩⟩
section
variable {Z : DK} {w0 W W' : World} {g gd gp gt n V r q c q2 c2 : Nat} {F G C : Nat -> List UInt8} {E E' : Nat -> Prop} {P : Nat -> PkM}
theorem rec_add (K : FK) (hV : V <= 1073000000) (hq : q + 4300 < 1073741824) (hc : c + 11 < 40) (key : List UInt8) (hkey : key.length = 32) (b : List UInt8) (z : Nat) (hz : b.length = z) (hz1 : z <= 4200) {m : Nat} (rw_ : RowP (n - 2 - r) m F P) (hm : m < 64) (hh : 4 + 16 * m + 16 <= n - 2 - r) {os : List (Option RecM)} (ro : RecsOK P os) :
 ∃ kk aa : Nat, kk < 64 /\ aa <= 8192 /\ (∀ x, some x ∈ os -> x.k = kk -> x.at_ + x.len <= aa) /\ ∀ W E A, T3 Z w0 W g gd gp gt n V r q c F C E -> HasB W W.heap.size A z b -> (∀ a, A = some a -> 0 < z -> E a.block) -> Calls Tryz.prog 18 #[.pointer (some ⟨gt, 0, none⟩), .agg (cellsB key).toArray, .slice A z z] W fun en W' => ∃ F', RetPl Z w0 W g gd gp gt n V r (q + 4300) (c + 12) F' C E (kk : Int) (aa : Int) ((z + 46 : Nat) : Int) 0 en W' /\ ∃ m' P', m' <= m + 1 /\ RowP (n - 2 - r) m' F' P' /\ RecsOK P' (os ++ [some ⟨kk, aa, key, b⟩]) := by
 by_cases hex : ∃ k, k < m /\ (P k).d.length + (b.length + 46) <= 8192
 · obtain ⟨k0, hk0, hr0⟩ := hex
   obtain ⟨k, hk1, ⟨hk2, hr⟩, hmin⟩ := least_of (p := fun k => k < m /\ (P k).d.length + (b.length + 46) <= 8192) k0 ⟨hk0, hr0⟩
   have h0 : (P k).s ≠ 0 := by rw [rw_.lo k hk2]; omega
   refine ⟨k, (P k).d.length, by omega, by omega, fun x hx hxk => ?_, fun W E A t hA hE => ?_⟩
   · have := (ro.inb x hx).at_
     rw [hxk] at this
     exact this
   · refine (radd_old K t hV hq hc key hkey A z z b hA (Nat.le_refl _) (by simp [maxLen]; omega) hE rw_ (by omega) hk2 hr (fun j hj => by
      apply Nat.lt_of_not_le
      intro h
      exact hmin j hj ⟨by omega, h⟩)).mono ?_
     rintro en W' ⟨F', P', hret, rw2, hP⟩
     rw [hz] at hret
     refine ⟨F', hret, m, P', by omega, rw2, ?_⟩
     rw [hP]
     exact ro.old (by omega) h0 key b hkey (by omega)
 · have hno : ∀ j, j < m -> 8192 < (P j).d.length + (b.length + 46) := fun j hj => by
    apply Nat.lt_of_not_le
    intro h
    exact hex ⟨j, hj, h⟩
   have h0 : (P m).s = 0 := rw_.no m (Nat.le_refl _) hm
   refine ⟨m, 0, hm, by omega, fun x hx hxk => ?_, fun W E A t hA hE => ?_⟩
   · have := (ro.inb x hx).s
     rw [hxk] at this
     exact absurd h0 this
   · refine (radd_new K t hV hq hc key hkey A z z b hA (Nat.le_refl _) (by simp [maxLen]; omega) hE rw_ (by omega) hm hh hno).mono ?_
     rintro en W' ⟨F', P', hret, rw2, hP⟩
     rw [hz] at hret
     refine ⟨F', hret, m + 1, P', by omega, rw2, ?_⟩
     rw [hP]
     exact ro.new hm h0 (by rw [rw_.inv.no m hm h0]; rfl) (by omega) key b hkey (by omega)
end
theorem JnS.add {Z : DK} {w0 W W' : World} {g gd gp n V r : Nat} {C : Nat -> List UInt8} {E E' : Nat -> Prop} (a : JnS Z w0 W g gd gp n V r C E) (ho : Only (fun k => E k \/ W.heap.size <= k) W W') (hE : ∀ k, E' k -> E k \/ (W.heap.size <= k /\ k < W'.heap.size)) : JnS Z w0 W' g gd gp n V r C E' := by
 obtain ⟨p, j, T, u, H, U, s, x⟩ := a
 exact ⟨p, j, T, u, H, U.own ho hE, s, x⟩
theorem JnS.lt {Z : DK} {w0 W : World} {g gd gp n V r : Nat} {C : Nat -> List UInt8} {E : Nat -> Prop} (a : JnS Z w0 W g gd gp n V r C E) : ∀ k, E k -> w0.heap.size <= k /\ k < W.heap.size := by
 obtain ⟨p, j, T, u, H, U, _⟩ := a
 exact U.lt
theorem JnS.up {Z : DK} {w0 W : World} {g gd gp n V r : Nat} {C : Nat -> List UInt8} {E : Nat -> Prop} (a : JnS Z w0 W g gd gp n V r C E) : Below w0.heap.size w0 W := by
 obtain ⟨p, j, T, u, H, U, _⟩ := a
 exact U.up.bel
def plR (x : RecM) : List Value := plC (x.k : Int) (x.at_ : Int) (x.len : Int)
theorem infoPl : (Tryz.prog.info? 44).map (fun i => (i.size, i.bytes, i.zero.map (fun z => z.cells.size))) = some (3, 24, some 3) := by kernel_rfl
def Places (w : World) (base : Nat) (v : Value) (rs : List RecM) : Prop := OwnM 44 3 w base v (rs.map plR)
section
variable {w w' : World} {base n c : Nat} {A : Option Addr} {v : Value} {rs : List RecM}
theorem Places.nil (w : World) (base : Nat) : Places w base (.slice none 0 0) [] := OwnM.nil _ _ _ _
theorem Places.len (h : Places w base (.slice A n c) rs) : n = rs.length := by
 have := OwnM.len h
 rwa [List.length_map] at this
theorem Places.slice (h : Places w base v rs) : ∃ A c, v = .slice A rs.length c := by
 obtain ⟨A, c, e⟩ := OwnM.slice h
 rw [List.length_map] at e
 exact ⟨A, c, e⟩
theorem Places.at_ (h : Places w base (.slice A n c) rs) (hn : 0 < n) : ∃ g, A = some ⟨g, 0, none⟩ /\ base <= g /\ g < w.heap.size /\ ∀ i x, rs[i]? = some x -> ∀ j u, (plR x)[j]? = some u -> w.cell? ⟨g, i * 3 + j, none⟩ = some u := by
 obtain ⟨g, h1, h2, h3, h4⟩ := OwnM.at_ h hn
 exact ⟨g, h1, h2, h3, fun i x hx => h4 i (plR x) (by rw [List.getElem?_map, hx]; rfl)⟩
theorem ld_plI {w : World} {g o : Nat} {x : RecM} (h : ∀ j u, (plR x)[j]? = some u -> w.cell? ⟨g, o + j, none⟩ = some u) : (loadVar 44 ⟨g, o, none⟩).run Tryz.prog w = .ok (.agg #[.int .i64 (x.k : Int), .int .i64 (x.at_ : Int), .int .i64 (x.len : Int)]) w :=
 load_M (E := 44) (k := 3) (r := plR x) rfl infoPlace (fun W => by unfold isAgg; rw [Sem.run_bind, run_underlying Tryz.underlying44 W]; rfl) h
end
theorem step_appMs {P : Program} {w : World} {ops : Array Oper} {o : Oper} {a : Act} {K : Act -> World -> Prop} {Q : Exit -> Act -> World -> Prop} {F : Prop} (hw : Region.wanted o (yielded ops a.tmps) = true) (s x : Operand) (T E : TypeId) (k bytes : Nat)
 (ho : o.op = .call { callee := .builtin .append, args := #[s, x], argTypes := #[T, T] })
 (ht : P.underlying T = some (.slice E)) (hi0 : (P.info? E).map (fun i => (i.size, i.bytes, i.zero.map (fun z => z.cells.size))) = some (k, bytes, some k)) (hk : 0 < k)
 (base : Nat) (v : Value) (rows rs2 : List (List Value)) (hev : a.eval s = v) (hown : OwnM E k w base v rows) (ad : Addr) (m c : Nat) (hx : a.eval x = .slice (some ad) m c) (hm : rs2.length = m) (hr : ∀ r ∈ rs2, r.length = k)
 (hnews : ∀ j u, rs2.flatten[j]? = some u -> w.cell? (ad.add j) = some u) (h1 : ∀ u ∈ rs2.flatten, u.oneCell' = true)
 (hlen : (rows.length + m) * (bytes + 1) <= 140737488355328) (hbase : base <= w.heap.size)
 (h : ∀ A' n' c' w', OwnM E k w' base (.slice A' n' c') (rows ++ rs2) -> w.grownBy w' v.ownBlock -> Below base w w' -> ((Value.slice A' n' c').ownBlock = v.ownBlock \/ (Value.slice A' n' c').ownBlock = some w.heap.size) -> K (a.put o.dst (.slice A' n' c')) w') :
 if Region.wanted o (yielded ops a.tmps) = true then Oper.wp P o a w K Q else F := by
 rw [if_pos hw]
 obtain ⟨i, z, hi, hz, hs, hby, hzs⟩ := infoM hi0
 have hb2 : (rows.length + m) * bytes <= 140737488355328 := Nat.le_trans (Nat.mul_le_mul_left _ (Nat.le_succ _)) hlen
 have hb3 : rows.length + m <= 140737488355328 := Nat.le_trans (Nat.le_mul_of_pos_right _ (Nat.succ_pos _)) hlen
 have hfl : rs2.flatten.length = m * k := by rw [flatM_len hr, hm]
 obtain ⟨v', w', hrn, h2, h3, h4, h5⟩ := run_append_own_at (P := P) w base T o.type E i z k bytes ht hi hz hs hby hzs hk v rows.length rows.flatten hown.1 ad m c rs2.flatten hfl hnews h1 (by simp only [maxLen]; omega) hb2 hbase
 have hown2 : OwnM E k w' base v' (rows ++ rs2) := by
  refine ⟨?_, fun q hq => ?_⟩
  · rw [List.length_append, List.flatten_append, hm]
    exact h2
  · rcases List.mem_append.1 hq with hq | hq
    · exact hown.2 q hq
    · exact hr q hq
 obtain ⟨A', c', rfl⟩ := hown2.slice
 unfold Oper.wp execOp
 simp only [ho, resolve, invoke, builtin, Sem.run_bind, Sem.run_pure, Result.andThen_ok, List.map_toArray, List.map_cons, List.map_nil, hev, hx, hrn]
 exact h A' _ c' w' hown2 h3 ((Below.refl base w).grown h3 hbase fun b hb => (hown.lt b hb).1) h5
theorem OwnM.empty (w : World) (base : Nat) (hb : base <= w.heap.size) : OwnM 44 3 (w.alloc (.cells #[] 44)) base (.slice (some ⟨w.heap.size, 0, none⟩) 0 0) [] :=
 ⟨⟨by simp, .inr ⟨w.heap.size, 0, #[], rfl, hb, heap_alloc_new w _, by simp, by simp, by simp, by simp⟩⟩, fun r hr => absurd hr (by simp)⟩
theorem pl_ones2 (rs : List RecM) : ∀ u ∈ (rs.map plR).flatten, u.oneCell' = true := by
 intro u hu
 simp only [List.mem_flatten, List.mem_map] at hu
 obtain ⟨l, ⟨x, _, rfl⟩, hu⟩ := hu
 simp [plR, plC] at hu
 rcases hu with rfl | rfl | rfl <;> rfl
theorem pl_len3 (rs : List RecM) : ∀ r ∈ rs.map plR, r.length = 3 := by
 intro r hr
 simp only [List.mem_map] at hr
 obtain ⟨x, _, rfl⟩ := hr
 rfl
theorem flat_drop (rs : List RecM) : ∀ i, (rs.map plR).flatten.drop (i * 3) = ((rs.drop i).map plR).flatten := by
 induction rs with
 | nil => intro i; simp
 | cons x rs ih =>
   intro i
   cases i with
   | zero => simp
   | succ i =>
     rw [List.map_cons, List.flatten_cons, List.drop_succ_cons, <- ih i, show (i + 1) * 3 = (plR x).length + i * 3 by show _ = 3 + _; omega, <- List.drop_drop, List.drop_left]
theorem flat_take (rs : List RecM) : ∀ i, ((rs.take i).map plR).flatten = (rs.map plR).flatten.take (i * 3) := by
 induction rs with
 | nil => intro i; simp
 | cons x rs ih =>
   intro i
   cases i with
   | zero => simp
   | succ i =>
     rw [List.take_succ_cons, List.map_cons, List.flatten_cons, List.map_cons, List.flatten_cons, ih i, show (i + 1) * 3 = (plR x).length + i * 3 by show _ = 3 + _; omega, List.take_length_add_append]
section
variable {Z : DK} {w0 W W' : World} {g gd gp gt n V r q c : Nat} {F C : Nat -> List UInt8} {E : Nat -> Prop}
theorem plist_err {k f : Int} (hf : f ≠ 0) (h : Calls Tryz.prog 66 #[.pointer (some ⟨gt, 0, none⟩), .int .i64 k] W (RetE Z w0 W g gd gp gt n V r q c F C E .z f)) :
 Calls Tryz.prog 32 #[.pointer (some ⟨gt, 0, none⟩), .int .i64 k] W fun en W' => en = .returned (.tuple #[.slice none 0 0, .int .i64 f]) /\ Below w0.heap.size w0 W' := by
 have H := lH h
 have HO := lH (ent_ones .z)
 have hfb : (f != 0) = true := by simpa using hf
 clear h
 go_enter Tryz.func32, Tryz.ntmps32
 go_wp2_with (first
  | (go_at_call 66; refine H.out.mono ?_; rintro e w7 ⟨rfl, t7, y7⟩
     have B7 := lH t7
     clear t7 y7)
  | (refine wpList_store_row8 rfl 121 (.tmp 6) (.tmp 19) rfl w7.heap.size (Ent.cells .z).toArray rfl rfl 121 _ (heap_alloc_new w7 _) infoEnt rfl HO.out ?_))
 go_ret2
 exact ⟨rfl, (B7.out.up1 (below_setRow ((Below.refl _ _).alloc (Nat.le_refl _) _) (Nat.le_refl _) _)).up⟩
end
end Go.Proofs.YthoebjekkfhhgaaGreat
