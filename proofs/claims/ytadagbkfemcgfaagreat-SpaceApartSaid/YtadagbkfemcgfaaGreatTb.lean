/-
  Own work. A transaction: Writes that are refused; Begin, Commit.
-/
import Derived.Test.YtadagbkfemcgfaaGreatTw7
namespace Go.Proofs.YtadagbkfemcgfaaGreat
open Go.RowKit Go.Maps Go.Sort Go.Shelf
set_option linter.unusedVariables false
set_option linter.unusedSimpArgs false

section
variable {w w' W : World} {gt g gd gp gm T h q n : Nat} {ws : List ByteArray} {M S B : Nat → Prop} {v : Value} {Z : DK} {w0 : World} {p : Pt} {j : JM}
set_option maxRecDepth 100000 in
theorem twrite_arg (a : TO w gt g T h q ws M) (u : UpB Z w0 w g gd gp n p j B) (ok : p.m.Ok n) (hjh : j.homes n = h) (i : Int) (hb : -9223372036854775808 ≤ i ∧ i ≤ 9223372036854775807) (hi : i < 0 ∨ (h : Int) ≤ i) (b : Value) :
    Calls Tryz.prog 32 #[.pointer (some ⟨gt, 0, none⟩), .int .i64 i, b] w (RetV2 w (.int .i64 1)) := by
  have C := Lib.hid (tfin_any a)
  have CH := thomes_any a u ok
  rw [hjh] at CH
  have CHm := Lib.hid CH
  clear a u ok hjh CH
  by_cases h0 : i < 0
  · clear hi
    go_enter Tryz.func32, Tryz.ntmps32
    go_wp2_with (go_at_call 39; refine C.out.mono ?_; rintro e w1 ⟨rfl, rfl⟩)
    go_ret
    exact ⟨rfl, Below.refl _ _⟩
  · have hi2 : (h : Int) ≤ i := hi.resolve_left h0
    clear hi
    go_enter Tryz.func32, Tryz.ntmps32
    go_wp2_with (first
      | (go_at_call 39; refine C.out.mono ?_; rintro e w1 ⟨rfl, rfl⟩)
      | (go_at_call 41; refine CHm.out.mono ?_; rintro e w1 ⟨rfl, b1⟩
         have B1 := Lib.hid b1
         clear b1))
    go_ret
    exact ⟨rfl, B1.out⟩
set_option maxRecDepth 100000 in
theorem twrite_size (a : TO w gt g T h q ws M) (u : UpB Z w0 w g gd gp n p j B) (ok : p.m.Ok n) (hjh : j.homes n = h) (i : Nat) (hi : i < h) (A : Option Addr) (nl c : Nat) (hl : nl ≠ 512) (hm : nl ≤ 1073741824) :
    Calls Tryz.prog 32 #[.pointer (some ⟨gt, 0, none⟩), .int .i64 (i : Int), .slice A nl c] w (RetV2 w (.int .i64 9)) := by
  have C := Lib.hid (tfin_any a)
  have CH := thomes_any a u ok
  rw [hjh] at CH
  have CHm := Lib.hid CH
  have hh := a.ex
  have hih : (i : Int) < (h : Int) := by omega
  have hne : ((nl : Int) != 512) = true := by rw [bne_iff_ne]; omega
  clear a u ok hjh CH hh hl
  go_enter Tryz.func32, Tryz.ntmps32
  go_wp2_with (first
    | (go_at_call 39; refine C.out.mono ?_; rintro e w1 ⟨rfl, rfl⟩)
    | (go_at_call 41; refine CHm.out.mono ?_; rintro e w1 ⟨rfl, b1⟩
       have B1 := Lib.hid b1
       clear b1))
  go_ret
  exact ⟨rfl, B1.out⟩
set_option maxRecDepth 100000 in
theorem twrite_long (a : TO w gt g T h q ws M) (u : UpB Z w0 w g gd gp n p j B) (ok : p.m.Ok n) (hjh : j.homes n = h) (i : Nat) (hi : i < h) (A : Option Addr) (c : Nat) (hno : (ws.getD i emp).size = 0) (hN : 40 ≤ (frK ws h).length) :
    Calls Tryz.prog 32 #[.pointer (some ⟨gt, 0, none⟩), .int .i64 (i : Int), .slice A 512 c] w (RetV2 w (.int .i64 2)) := by
  have C := Lib.hid (tfin_any a)
  have CH := thomes_any a u ok
  rw [hjh] at CH
  have CHm := Lib.hid CH
  have AA := Lib.hid a
  obtain ⟨gm, c0, c1, c2, v, hblk⟩ := a.cells
  have hgt := a.lt
  have hh := v.hh
  obtain ⟨D, pb, hm, hD, hpb⟩ := v.ex
  have HM := Lib.hid hm
  have HD := Lib.hid hD
  have hih : (i : Int) < (h : Int) := by omega
  have HBT : Hid (twB ws i = false) := Lib.hid (decide_eq_false (fun hh => hh hno))
  have hN4 : (frK ws h).length ≤ 4096 := Nat.le_trans (frK_len ws h) hh
  obtain ⟨N, hNe⟩ : ∃ N, (frK ws h).length = N := ⟨_, rfl⟩
  rw [hNe] at hN hN4
  have HNE := Lib.hid hNe
  clear a u ok hjh v hm hD hpb hblk CH hno hNe
  go_enter Tryz.func32, Tryz.ntmps32
  go_wp2_with (first
    | (go_at_call 39; refine C.out.mono ?_; rintro e w1 ⟨rfl, rfl⟩)
    | (go_at_call 41; refine CHm.out.mono ?_; rintro e w1 ⟨rfl, b1⟩
       have B1 := Lib.hid b1
       have M1 := Lib.hid (ownsMap_onlyP HM.out (Only.of_below (S := fun _ => False) b1 (Nat.le_refl _)) (fun h => h))
       have k2 : w1.cell? ⟨gt, 2, none⟩ = some (.map (some gm)) := (b1.cell hgt).trans c2
       have TC := ttouch_any (AA.out.below b1)
       rw [HNE.out] at TC
       have TCH := Lib.hid TC
       clear b1 TC)
    | (refine wp_lookT rfl (.tmp 27) (.tmp 28) rfl rfl i rfl D pb M1.out HD.out hh hi ?_; rw [HBT.out])
    | (go_at_call 44; refine TCH.out.mono ?_; rintro e w2 ⟨rfl, rfl⟩))
  go_ret
  exact ⟨rfl, B1.out⟩
/-! ### Begin -/
theorem hasPu_nil (W : World) : HasPu W none 0 [] := ⟨rfl, fun x hx => absurd hx (by simp), fun h => absurd h (by omega)⟩
/-- What stands behind a Begin. -/
def RetBe (Z : DK) (w0 w : World) (g gd gp n : Nat) (p : Pt) (j : JM) (B : Nat → Prop) (en : Ending) (w' : World) : Prop :=
  ∃ gt gm, en = .returned (.tuple #[.pointer (some ⟨gt, 0, none⟩), .int .i64 0]) ∧ TO w' gt g (j.k.turn - 1) (j.homes n) 0 (List.replicate (j.homes n) emp) (fun k => k = gm) ∧ UpB Z w0 w' g gd gp n p j (fun k => B k ∨ k = gt ∨ k = gm) ∧ w.heap.size ≤ gt ∧ w.heap.size ≤ gm ∧ Only (fun k => ¬ B k) w w'
set_option maxRecDepth 100000 in
set_option maxHeartbeats 1000000 in
theorem tbegin_any (u : UpB Z w0 w g gd gp n p j B) (ok : p.m.Ok n) (hw : p.m.wrote ≤ 1073720000) (hu : j.used ≤ j.k.ring) (ht : 1 ≤ j.k.turn) (hc : cmt p n j [] = ⟨0, p, j⟩) :
    Calls Tryz.prog 19 #[.pointer (some ⟨g, 0, none⟩)] w (RetBe Z w0 w g gd gp n p j B) := by
  have hn2 := ok.n2
  have tn := u.jo.ok.tn
  have hhm : j.homes n ≤ 4096 := by unfold JM.homes; omega
  have C0 := u.commitC ok hw none 0 0 [] (hasPu_nil w) (by omega) (by simp) hu
  rw [hc] at C0
  have C := Lib.hid C0
  have HT := Lib.hid ht
  have hmm : ∀ W : World, (Instr.makeMap 62 none).run Tryz.prog W = .ok (.map (some W.heap.size)) (W.alloc (.map #[] 0)) := fun W => by simp [Instr.makeMap, go_sem, Result.andThen]
  obtain ⟨T, hT⟩ : ∃ T, j.k.turn - 1 = T := ⟨_, rfl⟩
  have hTT := Lib.hid hT
  have hT2 : T < 9223372036854775808 := by omega
  obtain ⟨h, hh⟩ : ∃ h, j.homes n = h := ⟨_, rfl⟩
  have hRB : RetBe Z w0 w g gd gp n p j B = fun en w' => ∃ gt gm, en = .returned (.tuple #[.pointer (some ⟨gt, 0, none⟩), .int .i64 0]) ∧ TO w' gt g T h 0 (List.replicate h emp) (fun k => k = gm) ∧ UpB Z w0 w' g gd gp n p j (fun k => B k ∨ k = gt ∨ k = gm) ∧ w.heap.size ≤ gt ∧ w.heap.size ≤ gm ∧ Only (fun k => ¬ B k) w w' := by
    unfold RetBe
    rw [hT, hh]
  rw [hRB]
  rw [hh] at hhm
  clear C0 hc hw hu ok hRB hh hT tn ht
  go_enter Tryz.func19, Tryz.ntmps19
  go_wp2_with (first
    | (go_at_call 37; refine C.out.mono ?_; rintro e w1 ⟨rfl, u1, y1⟩
       have U1 := Lib.hid u1
       have Y1 := Lib.hid y1
       have TU := u1.turnC HT.out
       rw [hTT.out] at TU
       have CT := Lib.hid TU
       clear u1 y1 TU)
    | (go_at_call 38; refine CT.out.mono ?_; rintro e w2 ⟨rfl, rfl⟩))
  go_ret2
  have hb : Below w1.heap.size w1 ((w1.alloc (.map #[] 0)).alloc (.cells (txC g T w1.heap.size) 64)) := ((Below.refl _ w1).alloc (Nat.le_refl _) _).alloc (by simp) _
  have hsz : (w1.alloc (.map #[] 0)).heap.size = w1.heap.size + 1 := by simp
  have hblk := heap_alloc_new (w1.alloc (.map #[] 0)) (.cells (txC g T w1.heap.size) 64)
  rw [hsz] at hblk
  have hmap : ((w1.alloc (.map #[] 0)).alloc (.cells (txC g T w1.heap.size) 64)).ownsMap Tryz.prog 3 ptrElem w1.heap.size 0 (.map []) :=
    ownsMap_onlyP (S := fun _ => False) ⟨#[], 0, heap_alloc_new w1 _, ⟨by simp, MapKept.stamped_empty 0, by simp⟩, Nat.le_refl _, rfl⟩ (Only.of_below ((Below.refl _ _).alloc (Nat.le_refl _) _) (Nat.le_refl _)) (fun h => h)
  have hs2 : ((w1.alloc (.map #[] 0)).alloc (.cells (txC g T w1.heap.size) 64)).heap.size = w1.heap.size + 2 := by simp
  have hy := Y1.out.size
  exact ⟨w1.heap.size + 1, w1.heap.size, rfl, TO.nil_of hblk hmap (by omega) hT2 hhm, U1.out.own (Only.of_below hb (Nat.le_refl _)) (fun k hk => by
    rcases hk with hk | rfl | rfl
    · exact .inl hk
    · exact .inr ⟨by omega, Nat.lt_of_lt_of_eq (show w1.heap.size + 1 < w1.heap.size + 2 by omega) hs2.symm⟩
    · exact .inr ⟨Nat.le_refl _, Nat.lt_of_lt_of_eq (show w1.heap.size < w1.heap.size + 2 by omega) hs2.symm⟩), by omega, hy, Y1.out.trans (Only.of_below hb (Nat.le_refl _))⟩
/-! ### Commit -/
/-- Where a panic goes through the door, a slot that is no result's may stand as it likes. -/
theorem leaves_same {P : Program} {fn : Func} {t1 t2 : Array Value} {R : Ending → World → Prop} (h : ∀ w, (results fn t1).run P w = (results fn t2).run P w) : ∀ (ds : List Deferred) (u : FrameMode) (w : World), Leaves P fn t1 R ds u w → Leaves P fn t2 R ds u w
  | [], .returning, w, hl => by
    obtain ⟨v, h1, h2⟩ := hl
    exact ⟨v, (h w) ▸ h1, h2⟩
  | [], .panicking _, w, hl => hl
  | [], .run, w, hl => hl
  | d :: ds, u, w, hl => by
    obtain ⟨h1, fv, cap, f, args, h2, h3, h4⟩ := hl
    refine ⟨h1, fv, cap, f, args, h2, h3, h4.mono ?_⟩
    intro e u' w' he
    cases e with
    | returned v => exact leaves_same h ds _ _ he
    | panicked c => exact leaves_same h ds _ _ he
    | outgrown => exact he
theorem panic_put {P : Program} {fn : Func} {R : Ending → World → Prop} {q k : Nat} (hr : fn.results = #[ResultVar.tmp q]) (hne : k ≠ q) {c : List PanicEntry} {a : Act} {w : World} {v : Value} (h : bodyPostD P fn R (.panic c) (a.put (some k) v) w) : bodyPostD P fn R (.panic c) a w := by
  refine leaves_same (fun w => ?_) _ _ _ h
  rw [results_tmp hr, results_tmp hr]
  have e : (a.put (some k) v).tmps = a.tmps.setIfInBounds k v := rfl
  rw [e, Array.getD_eq_getD_getElem?, Array.getD_eq_getD_getElem?, Array.getElem?_setIfInBounds_ne hne]
set_option maxRecDepth 100000 in
theorem tabort_d (u : FrameMode) (cur : Array Value) (hg : w.heap[gt]? = some (.cells cur 64 (0, 0))) (hs : cur.size = 3) : CallsD Tryz.prog 14 #[.pointer (some ⟨gt, 0, none⟩)] u w (fun e u' w' => u' = u ∧ RetA w gt e w') := by
  have HG := Lib.hid hg
  have HS := Lib.hid hs
  clear hg hs
  go_enter_d Tryz.func14, Tryz.ntmps14
  go_wp2_with (first
    | (refine wpList_store_partL rfl 64 (.tmp 6) (.tmp 5) rfl gt 0 txZ.toArray rfl rfl 64 cur HG.out infoTx (by have := HS.out; show 0 + 3 ≤ cur.size; omega) (by intro v hv; simp [txZ] at hv; rcases hv with rfl | rfl | rfl <;> rfl) ?_))
  go_end0
  exact ⟨rfl, tz_store HG.out HS.out, (Only.refl (fun k => k = gt) w).setRow rfl _⟩
theorem load_jp {W : World} {ad : Addr} {v : Option Addr} (h : W.cell? ad = some (.pointer v)) : (loadVar 25 ad).run Tryz.prog W = .ok (.pointer v) W := by
  simp [loadVar, isAgg, run_underlying Tryz.underlying25, go_sem, h]
/-- What stands behind a Commit: what it answered, the journal, the transaction finished. -/
def RetCo (Z : DK) (w0 w : World) (gt g gd gp n : Nat) (p : Pt) (j : JM) (B : Nat → Prop) (E : Int) (en : Ending) (w' : World) : Prop :=
  en = .returned (.int .i64 E) ∧ TZ w' gt ∧ UpB Z w0 w' g gd gp n p j B ∧ Only (fun k => ¬ B k ∨ k = gt) w w'
set_option maxRecDepth 100000 in
set_option maxHeartbeats 2000000 in
theorem tcommit_old (a : TO w gt g T h q ws M) (u : UpB Z w0 w g gd gp n p j B) (hB : B gt) (ht : 1 ≤ j.k.turn) (hT : j.k.turn - 1 ≠ T) :
    Calls Tryz.prog 20 #[.pointer (some ⟨gt, 0, none⟩)] w (RetCo Z w0 w gt g gd gp n p j B 10) := by
  have C := Lib.hid (tfin_any a)
  have CT : Hid (∀ k, Calls Tryz.prog 38 #[.pointer (some ⟨g, 0, none⟩)] (w.drewN k) fun e w' => e = .returned (.int .u64 ((j.k.turn - 1 : Nat) : Int)) ∧ w' = w.drewN k) := Lib.hid (fun k => RetW.still ((u.below (W' := w.drewN k) ⟨rfl, rfl, rfl, Nat.le_refl _, fun _ _ => rfl⟩).turnC ht))
  obtain ⟨gm, c0, c1, c2, v, hblk⟩ := a.cells
  have tn := a.tn
  have hgt := a.lt
  have jt := u.jo.ok.tn
  obtain ⟨X, hX⟩ : ∃ X, j.k.turn - 1 = X := ⟨_, rfl⟩
  rw [hX] at hT CT
  have hne : ((X : Int) != (T : Int)) = true := by rw [bne_iff_ne]; omega
  have UU := Lib.hid u
  have BK := Lib.hid hblk
  have BG := Lib.hid hB
  clear a u ht v hblk hX hB hT
  go_enter_defers Tryz.func20, Tryz.ntmps20
  go_wp2_with (go_at_call 39; refine C.out.mono ?_; rintro e w1 ⟨rfl, rfl⟩)
  go_quiet ((go_at_call 38; refine Calls.quiet_of_same (CT.out _)))
  go_wp2_with fail
  have bkn : (w.drewN nq).heap[gt]? = some (.cells (txC g T gm) 64 (0, 0)) := BK.out
  refine leaves_cons (f := 14) (args := #[.pointer (some ⟨gt, 0, none⟩)]) (by simp) (by simp [go_sem]) ?_
  refine (tabort_d .returning _ bkn rfl).mono ?_
  rintro e u' w2 ⟨rfl, rfl, z2, y2⟩
  exact ⟨_, results_tmp rfl _ _ _, rfl, z2, (UU.out.below (W' := w.drewN nq) ⟨rfl, rfl, rfl, Nat.le_refl _, fun _ _ => rfl⟩).own (y2.mono (fun k _ hk => .inl (hk ▸ BG.out))) (fun k hk => .inl hk), (show Only (fun k => ¬ B k ∨ k = gt) w (w.drewN nq) from ⟨rfl, rfl, rfl, Nat.le_refl _, fun _ _ _ => rfl⟩).trans (y2.mono (fun k _ hk => .inr hk))⟩
set_option maxRecDepth 100000 in
set_option maxHeartbeats 4000000 in
theorem tcommit_new (a : TO w gt g T h q ws M) (u : UpB Z w0 w g gd gp n p j B) (hB : B gt) (ok : p.m.Ok n) (hw : p.m.wrote ≤ 1073720000) (hu : j.used ≤ j.k.ring) (ht : 1 ≤ j.k.turn) (hT : j.k.turn - 1 = T) (hq : q ≤ 1073741824) (hN : (frK ws h).length ≤ 1000) :
    Calls Tryz.prog 20 #[.pointer (some ⟨gt, 0, none⟩)] w (RetCo Z w0 w gt g gd gp n (cmt p n j (tPu ws h)).p (cmt p n j (tPu ws h)).j B (cmt p n j (tPu ws h)).e) := by
  have C := Lib.hid (tfin_any a)
  have CT : Hid (∀ k, Calls Tryz.prog 38 #[.pointer (some ⟨g, 0, none⟩)] (w.drewN k) fun e w' => e = .returned (.int .u64 ((j.k.turn - 1 : Nat) : Int)) ∧ w' = w.drewN k) := Lib.hid (fun k => RetW.still ((u.below (W' := w.drewN k) ⟨rfl, rfl, rfl, Nat.le_refl _, fun _ _ => rfl⟩).turnC ht))
  obtain ⟨gm, c0, c1, c2, v, hblk⟩ := a.cells
  have tn := a.tn
  have hgt := a.lt
  rw [hT] at CT
  have hne : ((T : Int) != (T : Int)) = false := bne_self_eq_false _
  have UU := Lib.hid u
  have AA := Lib.hid a
  have BK := Lib.hid hblk
  have BG := Lib.hid hB
  have HQ := Lib.hid hq
  have hdl : ∀ x ∈ tPu ws h, x.data.length ≤ 1073741824 := by
    intro x hx
    unfold tPu at hx
    obtain ⟨i, hi, rfl⟩ := List.mem_map.1 hx
    obtain ⟨h1, h2⟩ := frK_mem hi
    have hmem : ws.getD i emp ∈ ws := by
      rw [List.getD_eq_getElem?_getD, List.getElem?_eq_getElem (by rw [v.wl]; exact h1)]
      exact List.getElem_mem _
    show (ws.getD i emp).size ≤ 1073741824
    rcases v.wz _ hmem with h0 | h0 <;> omega
  have CC : Hid (∀ W A c, UpB Z w0 W g gd gp n p j B → HasPu W A (frK ws h).length (tPu ws h) → Calls Tryz.prog 37 #[.pointer (some ⟨g, 0, none⟩), .slice A (frK ws h).length c] W fun en W' => en = .returned (.int .i64 (cmt p n j (tPu ws h)).e) ∧ UpB Z w0 W' g gd gp n (cmt p n j (tPu ws h)).p (cmt p n j (tPu ws h)).j B ∧ Only (fun k => ¬ B k) W W') := Lib.hid (fun W A c u2 hp => u2.commitC ok hw A _ c _ hp hN hdl hu)
  obtain ⟨E, hE⟩ : ∃ E, (cmt p n j (tPu ws h)).e = E := ⟨_, rfl⟩
  obtain ⟨p2, hp2⟩ : ∃ p2, (cmt p n j (tPu ws h)).p = p2 := ⟨_, rfl⟩
  obtain ⟨j2, hj2⟩ : ∃ j2, (cmt p n j (tPu ws h)).j = j2 := ⟨_, rfl⟩
  rw [hE, hp2, hj2] at CC ⊢
  obtain ⟨N, hNN⟩ : ∃ N, (frK ws h).length = N := ⟨_, rfl⟩
  have HNN := Lib.hid hNN
  rw [hNN] at CC
  clear a u ht v hblk hT hB ok hw hu hN hE hp2 hj2 hNN hdl hq
  go_enter_defers Tryz.func20, Tryz.ntmps20
  go_wp2_with (go_at_call 39; refine C.out.mono ?_; rintro e w1 ⟨rfl, rfl⟩)
  go_quiet ((go_at_call 38; refine Calls.quiet_of_same (CT.out _)))
  go_wp2_with fail
  have bkn : (w.drewN nq).heap[gt]? = some (.cells (txC g T gm) 64 (0, 0)) := BK.out
  have k0 : (w.drewN nq).cell? ⟨gt, 0, none⟩ = some (.pointer (some ⟨g, 0, none⟩)) := c0
  have UN : Hid (UpB Z w0 (w.drewN nq) g gd gp n p j B) := Lib.hid (UU.out.below (W' := w.drewN nq) ⟨rfl, rfl, rfl, Nat.le_refl _, fun _ _ => rfl⟩)
  have AN : Hid (TO (w.drewN nq) gt g T h q ws M) := Lib.hid (AA.out.below (w' := w.drewN nq) ⟨rfl, rfl, rfl, Nat.le_refl _, fun _ _ => rfl⟩)
  have hW : Only (fun _ => False) w (w.drewN nq) := ⟨rfl, rfl, rfl, Nat.le_refl _, fun _ _ _ => rfl⟩
  have HW := Lib.hid hW
  obtain ⟨W5, hW5⟩ : ∃ W5, w.drewN nq = W5 := ⟨_, rfl⟩
  rw [hW5] at bkn k0 UN AN HW ⊢
  have hgt5 : gt < W5.heap.size := (Array.getElem?_eq_some_iff.1 bkn).1
  have BK5 := Lib.hid bkn
  have CPn := Lib.hid (tputs_any (AN.out.below (w' := W5.drew) ⟨rfl, rfl, rfl, Nat.le_refl _, fun _ _ => rfl⟩) HQ.out)
  have LJ : Hid (∀ W, Only (fun k => ¬ B k) W5 W → (loadVar 25 ⟨gt, 0, none⟩).run Tryz.prog W = .ok (.pointer (some ⟨g, 0, none⟩)) W) := Lib.hid (fun W hW => load_jp ((cell_only hW (fun hh => hh BG.out) k0)))
  clear c0 c1 c2 hW hW5 bkn
  refine wp_region_held_drew (S := fun W => Only (fun k => ¬ B k) W5 W) (by kernel_rfl) ((Only.refl _ _).drew) (fun hHeld => ?_)
  refine wpAnyH_take (i := 0) (v := ?v0) (by simp only [List.getElem?_toArray, List.getElem?_cons_succ, List.getElem?_cons_zero]; rfl) (by kernel_rfl) (by kernel_rfl) (by kernel_rfl) (by intro c a w h; exact panic_put (P := Tryz.prog) (fn := Tryz.f20) (q := 2) (k := 16) rfl (by decide) h) (Or.inl ⟨by rfl, ?h0⟩) (by assumption) ?_
  case h0 => (intro W hSw; (try dsimp only at hSw); go_simp; try with_reducible rfl)
  try simp only [Act.put, List.setIfInBounds_toArray, List.set_cons_zero, List.set_cons_succ]
  refine wpAnyH_take (i := 1) (v := ?v1) (by simp only [List.getElem?_toArray, List.getElem?_cons_succ, List.getElem?_cons_zero]; rfl) (by kernel_rfl) (by kernel_rfl) (by kernel_rfl) (by intro c a w h; exact panic_put (P := Tryz.prog) (fn := Tryz.f20) (q := 2) (k := 17) rfl (by decide) h) (Or.inl ⟨by rfl, ?h1⟩) (by assumption) ?_
  case h1 => (intro W hSw; (try dsimp only at hSw); go_simp; try with_reducible rfl)
  try simp only [Act.put, List.setIfInBounds_toArray, List.set_cons_zero, List.set_cons_succ]
  refine wpAnyH_take (i := 2) (v := ?v2) (by simp only [List.getElem?_toArray, List.getElem?_cons_succ, List.getElem?_cons_zero]; rfl) (by kernel_rfl) (by kernel_rfl) (by kernel_rfl) (by intro c a w h; exact panic_put (P := Tryz.prog) (fn := Tryz.f20) (q := 2) (k := 18) rfl (by decide) h) (Or.inl ⟨by rfl, ?h2⟩) (by assumption) ?_
  case h2 => (intro W hSw; (try dsimp only at hSw); go_simp; try with_reducible rfl)
  try simp only [Act.put, List.setIfInBounds_toArray, List.set_cons_zero, List.set_cons_succ]
  refine wpAnyH_take (i := 3) (by simp only [List.getElem?_toArray, List.getElem?_cons_succ, List.getElem?_cons_zero]; rfl) (by kernel_rfl) (by kernel_rfl) (by kernel_rfl) (by intro c a w h; exact panic_put (P := Tryz.prog) (fn := Tryz.f20) (q := 2) (k := 19) rfl (by decide) h) (yieldsIf_loadG (by rfl) 25 (.tmp 18) rfl ⟨gt, 0, none⟩ rfl _ LJ.out) (by assumption) ?_
  try simp only [Act.put, List.setIfInBounds_toArray, List.set_cons_zero, List.set_cons_succ]
  refine wpAnyH_take (i := 4) (v := ?v4) (by simp only [List.getElem?_toArray, List.getElem?_cons_succ, List.getElem?_cons_zero]; rfl) (by kernel_rfl) (by kernel_rfl) (by kernel_rfl) (by intro c a w h; exact panic_put (P := Tryz.prog) (fn := Tryz.f20) (q := 2) (k := 20) rfl (by decide) h) (Or.inl ⟨by rfl, ?h4⟩) (by assumption) ?_
  case h4 => (intro W hSw; (try dsimp only at hSw); go_simp; try with_reducible rfl)
  try simp only [Act.put, List.setIfInBounds_toArray, List.set_cons_zero, List.set_cons_succ]
  refine wpAnyH_ready (rs := [5]) (by kernel_rfl) (by simp) ?_
  refine AllReadyH.cons (by simp only [List.getElem?_toArray, List.getElem?_cons_succ, List.getElem?_cons_zero]; rfl) (fun K hK => ?_) AllReadyH.nil
  go_simp
  refine (CPn.out).mono ?_
  rintro e w6 ⟨A6, c6, rs, rfl, pr6, pl6, b6⟩
  have b6n : Below W5.heap.size W5 w6 := ⟨b6.os, b6.tape, b6.output, b6.size, b6.block⟩
  have U6 := Lib.hid (UN.out.below b6n)
  have hpu := pr6.puts
  rw [pl6] at hpu
  have CC6 := CC.out w6 A6 c6 U6.out (by rw [← HNN.out]; exact hpu)
  rw [HNN.out]
  have CH6 := Lib.hid CC6
  have hS5 : Only (fun k => ¬ B k) W5 w6 := Only.of_below b6n (Nat.le_refl _)
  have Y5 := Lib.hid hS5
  clear pr6 pl6 b6 b6n hpu CC6
  refine hK _ _ hS5 (fun hH5 => ?_)
  clear hK K
  try simp only [Act.put, List.setIfInBounds_toArray, List.set_cons_zero, List.set_cons_succ]
  refine wpAnyH_ready (rs := [6]) (by kernel_rfl) (by simp) ?_
  refine AllReadyH.cons (by simp only [List.getElem?_toArray, List.getElem?_cons_succ, List.getElem?_cons_zero]; rfl) (fun K hK => ?_) AllReadyH.nil
  go_simp
  refine CH6.out.mono ?_
  rintro e w7 ⟨rfl, u7, y7⟩
  have U7 := Lib.hid u7
  have hS6 : Only (fun k => ¬ B k) W5 w7 := Y5.out.trans y7
  have Y7 := Lib.hid hS6
  clear u7 y7
  refine hK _ _ hS6 (fun hH6 => ?_)
  clear hK K
  try simp only [Act.put, List.setIfInBounds_toArray, List.set_cons_zero, List.set_cons_succ]
  refine wpAnyH_ready (rs := [7]) (by kernel_rfl) (by simp) ?_
  refine AllReadyH.cons (by simp only [List.getElem?_toArray, List.getElem?_cons_succ, List.getElem?_cons_zero]; rfl) (fun K hK => ?_) AllReadyH.nil
  go_simp
  have hS7 := Y7.out
  refine hK _ _ hS7 (fun hH7 => ?_)
  clear hK K
  try simp only [Act.put, List.setIfInBounds_toArray, List.set_cons_zero, List.set_cons_succ]
  refine wpAnyH_done (by kernel_rfl) ?_ _
  try simp only [Act.put, List.setIfInBounds_toArray, List.set_cons_zero, List.set_cons_succ]
  go_wp2_with fail
  have bk7 : w7.heap[gt]? = some (.cells (txC g T gm) 64 (0, 0)) := (Y7.out.block _ hgt5 (fun hh => hh BG.out)).trans BK5.out
  refine leaves_cons (f := 14) (args := #[.pointer (some ⟨gt, 0, none⟩)]) (by simp) (by simp [go_sem]) ?_
  refine (tabort_d .returning _ bk7 rfl).mono ?_
  rintro e u' w8 ⟨rfl, rfl, z8, y8⟩
  exact ⟨_, results_tmp rfl _ _ _, rfl, z8, U7.out.own (y8.mono (fun k _ hk => .inl (hk ▸ BG.out))) (fun k hk => .inl hk), ((HW.out.mono (fun _ _ h => h.elim)).trans (Y7.out.mono (fun k _ hk => .inl hk))).trans (y8.mono (fun k _ hk => .inr hk))⟩
end
end Go.Proofs.YtadagbkfemcgfaaGreat
