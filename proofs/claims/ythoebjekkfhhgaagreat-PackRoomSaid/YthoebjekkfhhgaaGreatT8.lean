/-
  Own work.
-/
import Derived.Test.YthoebjekkfhhgaaGreatCp9
import Derived.Test.YthoebjekkfhhgaaGreatT7
import Derived.Test.YthoebjekkfhhgaaGreatG7
set_option linter.unusedVariables false
set_option linter.unusedSimpArgs false
set_option maxRecDepth 100000
set_option maxHeartbeats 8000000
namespace Go.Proofs.YthoebjekkfhhgaaGreat
open Go.RowKit Go.Maps Go.Sort Go.Shelf
section
variable {w w' W : World} {gt g gd gp gm T h q n : Nat} {ws : List ByteArray} {M S B : Nat -> Prop} {v : Value} {Z : DK} {w0 : World} {p : Pt} {j : JM}
theorem hasPu_nil (W : World) : HasPu W none 0 [] := ⟨rfl, fun x hx => absurd hx (by simp), fun h => absurd h (by omega)⟩
def RetBe (Z : DK) (w0 w : World) (g gd gp n : Nat) (p : Pt) (j : JM) (B : Nat -> Prop) (en : Ending) (w' : World) : Prop :=
 ∃ gt gm, en = .returned (.tuple #[.pointer (some ⟨gt, 0, none⟩), .int .i64 0]) /\ TO w' gt g (j.k.turn - 1) (j.homes n) 0 (List.replicate (j.homes n) emp) (fun k => k = gm) /\ UpB Z w0 w' g gd gp n p j (fun k => B k \/ k = gt \/ k = gm) /\ w.heap.size <= gt /\ w.heap.size <= gm /\ Only (fun k => ¬ B k) w w'
theorem tbegin_any (u : UpB Z w0 w g gd gp n p j B) (ok : p.m.Ok n) (hw : p.m.wrote <= 1073720000) (hu : j.used <= j.k.ring) (ht : 1 <= j.k.turn) (hc : cmt p n j [] = ⟨0, p, j⟩) :
 Calls Tryz.prog 14 #[.pointer (some ⟨g, 0, none⟩)] w (RetBe Z w0 w g gd gp n p j B) := by
 have hn2 := ok.n2
 have tn := u.jo.ok.tn
 have hhm : j.homes n <= 4096 := by unfold JM.homes; omega
 have C0 := u.commitC ok hw none 0 0 [] (hasPu_nil w) (by omega) (by simp) hu
 rw [hc] at C0
 have C := lH C0
 have HT := lH ht
 have hmm : ∀ W : World, (Instr.makeMap 90 none).run Tryz.prog W = .ok (.map (some W.heap.size)) (W.alloc (.map #[] 0)) := fun W => by simp [Instr.makeMap, go_sem, Result.andThen]
 obtain ⟨T, hT⟩ : ∃ T, j.k.turn - 1 = T := ⟨_, rfl⟩
 have hTT := lH hT
 have hT2 : T < 9223372036854775808 := by omega
 obtain ⟨h, hh⟩ : ∃ h, j.homes n = h := ⟨_, rfl⟩
 have hRB : RetBe Z w0 w g gd gp n p j B = fun en w' => ∃ gt gm, en = .returned (.tuple #[.pointer (some ⟨gt, 0, none⟩), .int .i64 0]) /\ TO w' gt g T h 0 (List.replicate h emp) (fun k => k = gm) /\ UpB Z w0 w' g gd gp n p j (fun k => B k \/ k = gt \/ k = gm) /\ w.heap.size <= gt /\ w.heap.size <= gm /\ Only (fun k => ¬ B k) w w' := by
  unfold RetBe
  rw [hT, hh]
 rw [hRB]
 rw [hh] at hhm
 clear C0 hc hw hu ok hRB hh hT tn ht
 go_enter Tryz.func14, Tryz.ntmps14
 go_wp2_with (first
  | (go_at_call 41; refine C.out.mono ?_; rintro e w1 ⟨rfl, u1, y1⟩
     have U1 := lH u1
     have Y1 := lH y1
     have TU := u1.turnC HT.out
     rw [hTT.out] at TU
     have CT := lH TU
     clear u1 y1 TU)
  | (go_at_call 40; refine CT.out.mono ?_; rintro e w2 ⟨rfl, rfl⟩))
 go_ret2
 have hb : Below w1.heap.size w1 ((w1.alloc (.map #[] 0)).alloc (.cells (txC g T w1.heap.size) 92)) := ((Below.refl _ w1).alloc (Nat.le_refl _) _).alloc (by simp) _
 have hsz : (w1.alloc (.map #[] 0)).heap.size = w1.heap.size + 1 := by simp
 have hblk := heap_alloc_new (w1.alloc (.map #[] 0)) (.cells (txC g T w1.heap.size) 92)
 rw [hsz] at hblk
 have hmap : ((w1.alloc (.map #[] 0)).alloc (.cells (txC g T w1.heap.size) 92)).ownsMap Tryz.prog 3 ptrElem w1.heap.size 0 (.map []) :=
  ownsMap_onlyP (S := fun _ => False) ⟨#[], 0, heap_alloc_new w1 _, ⟨by simp, MapKept.stamped_empty 0, by simp⟩, Nat.le_refl _, rfl⟩ (Only.of_below ((Below.refl _ _).alloc (Nat.le_refl _) _) (Nat.le_refl _)) (fun h => h)
 have hs2 : ((w1.alloc (.map #[] 0)).alloc (.cells (txC g T w1.heap.size) 92)).heap.size = w1.heap.size + 2 := by simp
 have hy := Y1.out.size
 exact ⟨w1.heap.size + 1, w1.heap.size, rfl, TO.nil_of hblk hmap (by omega) hT2 hhm, U1.out.own (Only.of_below hb (Nat.le_refl _)) (fun k hk => by
  rcases hk with hk | rfl | rfl
  · exact .inl hk
  · exact .inr ⟨by omega, Nat.lt_of_lt_of_eq (show w1.heap.size + 1 < w1.heap.size + 2 by omega) hs2.symm⟩
  · exact .inr ⟨Nat.le_refl _, Nat.lt_of_lt_of_eq (show w1.heap.size < w1.heap.size + 2 by omega) hs2.symm⟩), by omega, hy, Y1.out.trans (Only.of_below hb (Nat.le_refl _))⟩
theorem leaves_same {P : Program} {fn : Func} {t1 t2 : Array Value} {R : Ending -> World -> Prop} (h : ∀ w, (results fn t1).run P w = (results fn t2).run P w) : ∀ (ds : List Deferred) (u : FrameMode) (w : World), Leaves P fn t1 R ds u w -> Leaves P fn t2 R ds u w
 | [], .returning, w, hl => by
   obtain ⟨v, h1, h2⟩ := hl
   exact ⟨v, (h w) ▸ h1, h2⟩
 | [], .panicking _, w, hl => hl
 | [], .run, w, hl => hl
 | d :: ds, u, w, hl => by
   obtain ⟨h1, fv, cap, f, args, h2, h3, h4⟩ := hl
   refine ⟨h1, fv, cap, f, args, h2, h3, h4.mono ?_⟩
   intro e u' w' he
   cases e with
   | returned v => exact leaves_same h ds _ _ he
   | panicked c => exact leaves_same h ds _ _ he
   | outgrown => exact he
theorem panic_put {P : Program} {fn : Func} {R : Ending -> World -> Prop} {q k : Nat} (hr : fn.results = #[ResultVar.tmp q]) (hne : k ≠ q) {c : List PanicEntry} {a : Act} {w : World} {v : Value} (h : bodyPostD P fn R (.panic c) (a.put (some k) v) w) : bodyPostD P fn R (.panic c) a w := by
 refine leaves_same (fun w => ?_) _ _ _ h
 rw [results_tmp hr, results_tmp hr]
 have e : (a.put (some k) v).tmps = a.tmps.setIfInBounds k v := rfl
 rw [e, Array.getD_eq_getD_getElem?, Array.getD_eq_getD_getElem?, Array.getElem?_setIfInBounds_ne hne]
theorem tabort_d (u : FrameMode) (cur : Array Value) (hg : w.heap[gt]? = some (.cells cur 92 (0, 0))) (hs : cur.size = 3) : CallsD Tryz.prog 24 #[.pointer (some ⟨gt, 0, none⟩)] u w (fun e u' w' => u' = u /\ RetA w gt e w') := by
 have HG := lH hg
 have HS := lH hs
 clear hg hs
 go_enter_d Tryz.func24, Tryz.ntmps24
 go_wp2_with (first
  | (refine wpList_store_partL rfl 92 (.tmp 6) (.tmp 5) rfl gt 0 txZ.toArray rfl rfl 92 cur HG.out infoTx (by have := HS.out; show 0 + 3 <= cur.size; omega) (by intro v hv; simp [txZ] at hv; rcases hv with rfl | rfl | rfl <;> rfl) ?_))
 go_end0
 exact ⟨rfl, tz_store HG.out HS.out, (Only.refl (fun k => k = gt) w).setRow rfl _⟩
theorem load_jp {W : World} {ad : Addr} {v : Option Addr} (h : W.cell? ad = some (.pointer v)) : (loadVar 25 ad).run Tryz.prog W = .ok (.pointer v) W := by
 simp [loadVar, isAgg, run_underlying Tryz.underlying25, go_sem, h]
def RetCo (Z : DK) (w0 w : World) (gt g gd gp n : Nat) (p : Pt) (j : JM) (B : Nat -> Prop) (E : Int) (en : Ending) (w' : World) : Prop :=
 en = .returned (.int .i64 E) /\ TZ w' gt /\ UpB Z w0 w' g gd gp n p j B /\ Only (fun k => ¬ B k \/ k = gt) w w'
theorem tcommit_new (a : TO w gt g T h q ws M) (u : UpB Z w0 w g gd gp n p j B) (hB : B gt) (ok : p.m.Ok n) (hw : p.m.wrote <= 1073720000) (hu : j.used <= j.k.ring) (ht : 1 <= j.k.turn) (hT : j.k.turn - 1 = T) (hq : q <= 1073741824) (hN : (frK ws h).length <= 1000) :
 Calls Tryz.prog 13 #[.pointer (some ⟨gt, 0, none⟩)] w (RetCo Z w0 w gt g gd gp n (cmt p n j (tPu ws h)).p (cmt p n j (tPu ws h)).j B (cmt p n j (tPu ws h)).e) := by
 have C := lH (tfin_any a)
 have CT : Hid (∀ k, Calls Tryz.prog 40 #[.pointer (some ⟨g, 0, none⟩)] (w.drewN k) fun e w' => e = .returned (.int .u64 ((j.k.turn - 1 : Nat) : Int)) /\ w' = w.drewN k) := lH (fun k => RetW.still ((u.below (W' := w.drewN k) ⟨rfl, rfl, rfl, Nat.le_refl _, fun _ _ => rfl⟩).turnC ht))
 obtain ⟨gm, c0, c1, c2, v, hblk⟩ := a.cells
 have tn := a.tn
 have hgt := a.lt
 rw [hT] at CT
 have hne : ((T : Int) != (T : Int)) = false := bne_self_eq_false _
 have UU := lH u
 have AA := lH a
 have BK := lH hblk
 have BG := lH hB
 have HQ := lH hq
 have hdl : ∀ x ∈ tPu ws h, x.data.length <= 1073741824 := by
  intro x hx
  unfold tPu at hx
  obtain ⟨i, hi, rfl⟩ := List.mem_map.1 hx
  obtain ⟨h1, h2⟩ := frK_mem hi
  have hmem : ws.getD i emp ∈ ws := by
   rw [List.getD_eq_getElem?_getD, List.getElem?_eq_getElem (by rw [v.wl]; exact h1)]
   exact List.getElem_mem _
  show (ws.getD i emp).size <= 1073741824
  rcases v.wz _ hmem with h0 | h0 <;> omega
 have CC : Hid (∀ W A c, UpB Z w0 W g gd gp n p j B -> HasPu W A (frK ws h).length (tPu ws h) -> Calls Tryz.prog 41 #[.pointer (some ⟨g, 0, none⟩), .slice A (frK ws h).length c] W fun en W' => en = .returned (.int .i64 (cmt p n j (tPu ws h)).e) /\ UpB Z w0 W' g gd gp n (cmt p n j (tPu ws h)).p (cmt p n j (tPu ws h)).j B /\ Only (fun k => ¬ B k) W W') := lH (fun W A c u2 hp => u2.commitC ok hw A _ c _ hp hN hdl hu)
 obtain ⟨E, hE⟩ : ∃ E, (cmt p n j (tPu ws h)).e = E := ⟨_, rfl⟩
 obtain ⟨p2, hp2⟩ : ∃ p2, (cmt p n j (tPu ws h)).p = p2 := ⟨_, rfl⟩
 obtain ⟨j2, hj2⟩ : ∃ j2, (cmt p n j (tPu ws h)).j = j2 := ⟨_, rfl⟩
 rw [hE, hp2, hj2] at CC ⊢
 obtain ⟨N, hNN⟩ : ∃ N, (frK ws h).length = N := ⟨_, rfl⟩
 have HNN := lH hNN
 rw [hNN] at CC
 clear a u ht v hblk hT hB ok hw hu hN hE hp2 hj2 hNN hdl hq
 go_enter_defers Tryz.func13, Tryz.ntmps13
 go_wp2_with (go_at_call 39; refine C.out.mono ?_; rintro e w1 ⟨rfl, rfl⟩)
 go_quiet ((go_at_call 40; refine Calls.quiet_of_same (CT.out _)))
 go_wp2_with fail
 have bkn : (w.drewN nq).heap[gt]? = some (.cells (txC g T gm) 92 (0, 0)) := BK.out
 have k0 : (w.drewN nq).cell? ⟨gt, 0, none⟩ = some (.pointer (some ⟨g, 0, none⟩)) := c0
 have UN : Hid (UpB Z w0 (w.drewN nq) g gd gp n p j B) := lH (UU.out.below (W' := w.drewN nq) ⟨rfl, rfl, rfl, Nat.le_refl _, fun _ _ => rfl⟩)
 have AN : Hid (TO (w.drewN nq) gt g T h q ws M) := lH (AA.out.below (w' := w.drewN nq) ⟨rfl, rfl, rfl, Nat.le_refl _, fun _ _ => rfl⟩)
 have hW : Only (fun _ => False) w (w.drewN nq) := ⟨rfl, rfl, rfl, Nat.le_refl _, fun _ _ _ => rfl⟩
 have HW := lH hW
 obtain ⟨W5, hW5⟩ : ∃ W5, w.drewN nq = W5 := ⟨_, rfl⟩
 rw [hW5] at bkn k0 UN AN HW ⊢
 have hgt5 : gt < W5.heap.size := (Array.getElem?_eq_some_iff.1 bkn).1
 have BK5 := lH bkn
 have CPn := lH (tputs_any (AN.out.below (w' := W5.drew) ⟨rfl, rfl, rfl, Nat.le_refl _, fun _ _ => rfl⟩) HQ.out)
 have LJ : Hid (∀ W, Only (fun k => ¬ B k) W5 W -> (loadVar 25 ⟨gt, 0, none⟩).run Tryz.prog W = .ok (.pointer (some ⟨g, 0, none⟩)) W) := lH (fun W hW => load_jp ((cell_only hW (fun hh => hh BG.out) k0)))
 clear c0 c1 c2 hW hW5 bkn
 refine wp_region_held_drew (S := fun W => Only (fun k => ¬ B k) W5 W) (by kernel_rfl) ((Only.refl _ _).drew) (fun hHeld => ?_)
 refine wpAnyH_take (i := 0) (v := ?v0) (by simp only [List.getElem?_toArray, List.getElem?_cons_succ, List.getElem?_cons_zero]; rfl) (by kernel_rfl) (by kernel_rfl) (by kernel_rfl) (by intro c a w h; exact panic_put (P := Tryz.prog) (fn := Tryz.f13) (q := 2) (k := 16) rfl (by decide) h) (Or.inl ⟨by rfl, ?h0⟩) (by assumption) ?_
 case h0 => (intro W hSw; (try dsimp only at hSw); go_simp; try with_reducible rfl)
 try simp only [aP,aN,aS,aZ,aC]
 refine wpAnyH_take (i := 1) (v := ?v1) (by simp only [List.getElem?_toArray, List.getElem?_cons_succ, List.getElem?_cons_zero]; rfl) (by kernel_rfl) (by kernel_rfl) (by kernel_rfl) (by intro c a w h; exact panic_put (P := Tryz.prog) (fn := Tryz.f13) (q := 2) (k := 17) rfl (by decide) h) (Or.inl ⟨by rfl, ?h1⟩) (by assumption) ?_
 case h1 => (intro W hSw; (try dsimp only at hSw); go_simp; try with_reducible rfl)
 try simp only [aP,aN,aS,aZ,aC]
 refine wpAnyH_take (i := 2) (v := ?v2) (by simp only [List.getElem?_toArray, List.getElem?_cons_succ, List.getElem?_cons_zero]; rfl) (by kernel_rfl) (by kernel_rfl) (by kernel_rfl) (by intro c a w h; exact panic_put (P := Tryz.prog) (fn := Tryz.f13) (q := 2) (k := 18) rfl (by decide) h) (Or.inl ⟨by rfl, ?h2⟩) (by assumption) ?_
 case h2 => (intro W hSw; (try dsimp only at hSw); go_simp; try with_reducible rfl)
 try simp only [aP,aN,aS,aZ,aC]
 refine wpAnyH_take (i := 3) (by simp only [List.getElem?_toArray, List.getElem?_cons_succ, List.getElem?_cons_zero]; rfl) (by kernel_rfl) (by kernel_rfl) (by kernel_rfl) (by intro c a w h; exact panic_put (P := Tryz.prog) (fn := Tryz.f13) (q := 2) (k := 19) rfl (by decide) h) (yieldsIf_loadG (by rfl) 25 (.tmp 18) rfl ⟨gt, 0, none⟩ rfl _ LJ.out) (by assumption) ?_
 try simp only [aP,aN,aS,aZ,aC]
 refine wpAnyH_take (i := 4) (v := ?v4) (by simp only [List.getElem?_toArray, List.getElem?_cons_succ, List.getElem?_cons_zero]; rfl) (by kernel_rfl) (by kernel_rfl) (by kernel_rfl) (by intro c a w h; exact panic_put (P := Tryz.prog) (fn := Tryz.f13) (q := 2) (k := 20) rfl (by decide) h) (Or.inl ⟨by rfl, ?h4⟩) (by assumption) ?_
 case h4 => (intro W hSw; (try dsimp only at hSw); go_simp; try with_reducible rfl)
 try simp only [aP,aN,aS,aZ,aC]
 refine rd9 (i := 5) (h := fun K hK => ?_)
 go_simp
 refine (CPn.out).mono ?_
 rintro e w6 ⟨A6, c6, rs, rfl, pr6, pl6, b6⟩
 have b6n : Below W5.heap.size W5 w6 := ⟨b6.os, b6.tape, b6.output, b6.size, b6.block⟩
 have U6 := lH (UN.out.below b6n)
 have hpu := pr6.puts
 rw [pl6] at hpu
 have CC6 := CC.out w6 A6 c6 U6.out (by rw [<- HNN.out]; exact hpu)
 rw [HNN.out]
 have CH6 := lH CC6
 have hS5 : Only (fun k => ¬ B k) W5 w6 := Only.of_below b6n (Nat.le_refl _)
 have Y5 := lH hS5
 clear pr6 pl6 b6 b6n hpu CC6
 refine hK _ _ hS5 (fun hH5 => ?_)
 clear hK K
 try simp only [aP,aN,aS,aZ,aC]
 refine rd9 (i := 6) (h := fun K hK => ?_)
 go_simp
 refine CH6.out.mono ?_
 rintro e w7 ⟨rfl, u7, y7⟩
 have U7 := lH u7
 have hS6 : Only (fun k => ¬ B k) W5 w7 := Y5.out.trans y7
 have Y7 := lH hS6
 clear u7 y7
 refine hK _ _ hS6 (fun hH6 => ?_)
 clear hK K
 try simp only [aP,aN,aS,aZ,aC]
 refine rd9 (i := 7) (h := fun K hK => ?_)
 go_simp
 have hS7 := Y7.out
 refine hK _ _ hS7 (fun hH7 => ?_)
 clear hK K
 try simp only [aP,aN,aS,aZ,aC]
 refine wpAnyH_done (by kernel_rfl) ?_ _
 try simp only [aP,aN,aS,aZ,aC]
 go_wp2_with fail
 have bk7 : w7.heap[gt]? = some (.cells (txC g T gm) 92 (0, 0)) := (Y7.out.block _ hgt5 (fun hh => hh BG.out)).trans BK5.out
 refine leaves_cons (f := 24) (args := #[.pointer (some ⟨gt, 0, none⟩)]) (by simp) (by simp [go_sem]) ?_
 refine (tabort_d .returning _ bk7 rfl).mono ?_
 rintro e u' w8 ⟨rfl, rfl, z8, y8⟩
 exact ⟨_, results_tmp rfl _ _ _, rfl, z8, U7.out.own (y8.mono (fun k _ hk => .inl (hk ▸ BG.out))) (fun k hk => .inl hk), ((HW.out.mono (fun _ _ h => h.elim)).trans (Y7.out.mono (fun k _ hk => .inl hk))).trans (y8.mono (fun k _ hk => .inr hk))⟩
end
end Go.Proofs.YthoebjekkfhhgaaGreat
namespace Go.Proofs.YthoebjekkfhhgaaGreat
open Go.RowKit Go.Maps
theorem putH_out : ∀ (l : List Ch) (H : Nat -> List UInt8) (i : Nat), (∀ c ∈ l, c.home ≠ i) -> putH H l i = H i
 | [], _, _, _ => rfl
 | c :: l, H, i, h => by
   show putH (upd H c.home c.data) l i = H i
   rw [putH_out l _ i (fun x hx => h x (by simp [hx])), upd_ne (fun e => h c (by simp) e.symm)]
theorem putH_in : ∀ (l : List Ch) (H : Nat -> List UInt8), (l.map Ch.home).Nodup -> ∀ c ∈ l, putH H l c.home = c.data
 | [], _, _, c, hc => absurd hc (by simp)
 | x :: l, H, hn, c, hc => by
   rw [List.map_cons, List.nodup_cons] at hn
   show putH (upd H x.home x.data) l c.home = c.data
   rcases List.mem_cons.1 hc with rfl | hc
   · rw [putH_out l _ _ (fun y hy e => hn.1 (by rw [<- e]; exact List.mem_map_of_mem hy)), upd_same]
   · exact putH_in l _ hn.2 c hc
def txH (H : Nat -> List UInt8) (ws : List ByteArray) : Nat -> List UInt8 := fun i => if (ws.getD i emp).size ≠ 0 then lst (ws.getD i emp) else H i
theorem frK_nodup (f : List ByteArray) (k : Nat) : (frK f k).Nodup := List.Pairwise.filter _ (List.nodup_range (n := k))
theorem tPu_homes (ws : List ByteArray) (h : Nat) : (chs (tPu ws h)).map Ch.home = frK ws h := by
 unfold chs tPu
 rw [List.map_map, List.map_map]
 have : (Ch.home ∘ (fun (x : Pu) => (⟨x.i.toNat, x.data⟩ : Ch)) ∘ fun (i : Nat) => (⟨(i : Int), lst (ws.getD i emp)⟩ : Pu)) = id := by
  funext i
  simp
 exact (congrArg (fun f => List.map f (frK ws h)) this).trans (List.map_id _)
theorem putH_tPu (H : Nat -> List UInt8) (ws : List ByteArray) (h : Nat) {i : Nat} (hi : i < h) : putH H (chs (tPu ws h)) i = txH H ws i := by
 unfold txH
 by_cases h0 : (ws.getD i emp).size ≠ 0
 · rw [if_pos h0]
   have hm : (⟨i, lst (ws.getD i emp)⟩ : Ch) ∈ chs (tPu ws h) := by
    unfold chs tPu
    rw [List.map_map]
    exact List.mem_map.2 ⟨i, frK_in hi h0, by simp⟩
   exact putH_in _ H (by rw [tPu_homes]; exact frK_nodup ws h) _ hm
 · rw [if_neg h0]
   refine putH_out _ _ _ (fun c hc e => ?_)
   have : c.home ∈ frK ws h := by rw [<- tPu_homes]; exact List.mem_map_of_mem hc
   rw [e] at this
   exact h0 (frK_mem this).2
theorem tPu_ok {ws : List ByteArray} {h : Nat} (hl : ws.length = h) (hz : ∀ s ∈ ws, s.size = 0 \/ s.size = 512) : ∀ x ∈ tPu ws h, 0 <= x.i /\ x.i < (h : Nat) /\ x.data.length = 512 := by
 intro x hx
 unfold tPu at hx
 obtain ⟨i, hi, rfl⟩ := List.mem_map.1 hx
 obtain ⟨h1, h2⟩ := frK_mem hi
 have hmem : ws.getD i emp ∈ ws := by
  rw [List.getD_eq_getElem?_getD, List.getElem?_eq_getElem (by omega)]
  exact List.getElem_mem _
 refine ⟨by show (0 : Int) <= (i : Int); omega, by show (i : Int) < (h : Nat); omega, ?_⟩
 rcases hz _ hmem with h0 | h0
 · exact absurd h0 h2
 · exact h0
theorem tPu_nodup (ws : List ByteArray) (h : Nat) : ((tPu ws h).map Pu.i).Nodup := by
 unfold tPu
 rw [List.map_map]
 unfold List.Nodup
 rw [List.pairwise_map]
 refine (frK_nodup ws h).imp (fun {a b} hab hh => hab ?_)
 have h2 : (a : Int) = (b : Int) := hh
 omega
section
variable {Z : DK} {w0 w W W' : World} {gt g gd gp n V T Tt u r h q : Nat} {p : Pt} {j : JM} {H : Nat -> List UInt8} {B M : Nat -> Prop} {ws : List ByteArray}
theorem TO.wl (a : TO W gt g T h q ws M) : ws.length = h /\ (∀ s ∈ ws, s.size = 0 \/ s.size = 512) /\ h <= 4096 := by
 obtain ⟨⟨gm, _, v⟩, _, _⟩ := a
 exact ⟨v.wl, v.wz, v.hh⟩
theorem begin_up (a : UpB Z w0 W g gd gp n p j B) (b : SJ p n V j T u r H) (hV : V <= 1073000000) :
 Calls Tryz.prog 14 #[.pointer (some ⟨g, 0, none⟩)] W fun en W' => ∃ gt gm, en = .returned (.tuple #[.pointer (some ⟨gt, 0, none⟩), .int .i64 0]) /\ TO W' gt g (T - 1) (n - 2 - r) 0 (List.replicate (n - 2 - r) emp) (fun k => k = gm) /\ UpB Z w0 W' g gd gp n p j (fun k => B k \/ k = gt \/ k = gm) /\ W.heap.size <= gt /\ W.heap.size <= gm /\ Only (fun k => ¬ B k) W W' := by
 obtain ⟨b1, b2, b3, b4, b5, b6, b7, b8, b9, b10, b11, b12⟩ := b.homes
 obtain ⟨_, ok, _, hw, _, _⟩ := b.jok hV
 have q := tbegin_any a ok (by omega) (by rw [b2, b4]; exact b9) (by rw [b3]; exact b10) b.nil
 unfold RetBe at q
 rw [b1, b3] at q
 exact q
theorem write_up (a : UpB Z w0 W g gd gp n p j B) (b : SJ p n V j T u r H) (hV : V <= 1073000000) (t : TO W gt g Tt (n - 2 - r) q ws M) (hB : B gt) (hM : ∀ k, M k -> B k) (i : Nat) (hi : i < n - 2 - r) (A : Option Addr) (c : Nat) (l : List UInt8) (hd : HasB W W.heap.size A 512 l) (hl : l.length = 512) (hc : 512 <= c)
 (hfit : (ws.getD i emp).size ≠ 0 \/ (frK ws (n - 2 - r)).length < 40) (hq : q < 1073741824) :
 Calls Tryz.prog 71 #[.pointer (some ⟨gt, 0, none⟩), .int .i64 (i : Int), .slice A 512 c] W fun en W' => en = .returned (.int .i64 0) /\ ∃ M', TO W' gt g Tt (n - 2 - r) (q + 1) (ws.set i (strB l)) M' /\ UpB Z w0 W' g gd gp n p j (fun k => B k \/ M' k) /\ (∀ k, M' k -> M k \/ (W.heap.size <= k /\ k < W'.heap.size)) /\ Only (fun k => k = gt) W W' := by
 obtain ⟨b1, b2, b3, b4, b5, b6, b7, b8, b9, b10, b11, b12⟩ := b.homes
 obtain ⟨_, ok, _, hw, _, _⟩ := b.jok hV
 have hml := t.ml
 have ht0 := t
 refine (twrite_ok t a ok b1 i hi A c l hd hl hc hfit hq).mono ?_
 rintro en W' ⟨he, M', t1, t2, t3⟩
 exact ⟨he, M', t1, a.own (t3.mono (fun k _ hk => .inl (hk ▸ hB))) (fun k hk => by
  rcases hk with hk | hk
  · exact .inl hk
  · rcases t2 k hk with h' | h'
    · exact .inl (hM k h')
    · exact .inr h'), t2, t3⟩
theorem commit_tx (a : UpB Z w0 W g gd gp n p j B) (b : SJ p n V j T u r H) (hV : V + n + 60 <= 1073000000) (t : TO W gt g (T - 1) (n - 2 - r) q ws M) (hB : B gt) (hc : (frK ws (n - 2 - r)).length <= 40) (hcr : (frK ws (n - 2 - r)).length < r) (hq : q <= 1073741824) :
 Calls Tryz.prog 13 #[.pointer (some ⟨gt, 0, none⟩)] W fun en W' => en = .returned (.int .i64 0) /\ TZ W' gt /\ (∃ p' j' T' u', UpB Z w0 W' g gd gp n p' j' B /\ SJ p' n (V + n + 43) j' T' u' r (txH H ws) /\ (frK ws (n - 2 - r) ≠ [] -> T' = T + 1) /\ p'.m.powers = p.m.powers) /\ Only (fun k => ¬ B k \/ k = gt) W W' := by
 obtain ⟨b1, b2, b3, b4, b5, b6, b7, b8, b9, b10, b11, b12⟩ := b.homes
 obtain ⟨_, ok, _, hw, _, _⟩ := b.jok (by omega)
 obtain ⟨wl, wz, hh⟩ := t.wl
 have hlen : (tPu ws (n - 2 - r)).length = (frK ws (n - 2 - r)).length := tPu_len _ _
 refine (tcommit_new t a hB ok (by omega) (by rw [b2, b4]; exact b9) (by rw [b3]; exact b10) (by rw [b3]) hq (by omega)).mono ?_
 rintro en W' ⟨he, z, u2, y⟩
 by_cases hne : frK ws (n - 2 - r) = []
 · have hnil : tPu ws (n - 2 - r) = [] := by unfold tPu; rw [hne]; rfl
   rw [hnil, b.nil] at he u2
   have hH : ∀ i, i < n - 2 - r -> H i = txH H ws i := fun i hi => by
    unfold txH
    rw [if_neg]
    intro h0
    have := frK_in (F := ws) hi h0
    rw [hne] at this
    cases this
   exact ⟨he, z, ⟨p, j, T, u, u2, (b.congr hH).more (by omega), fun h' => absurd hne h', rfl⟩, y⟩
 · have hv : lstE n j (tPu ws (n - 2 - r)) = 0 := b.may (tPu_ok wl wz) (tPu_nodup _ _) (by omega) (by omega)
   have hpn : tPu ws (n - 2 - r) ≠ [] := fun h' => hne (by
    have := congrArg List.length h'
    rw [hlen] at this
    exact List.length_eq_zero_iff.1 this)
   obtain ⟨c1, c2⟩ := b.commit hV hv hpn
   rw [c1] at he
   exact ⟨he, z, ⟨_, _, _, _, u2, c2.congr (fun i hi => putH_tPu H ws _ hi), fun _ => rfl, cmt_powers _ _ _ _⟩, y⟩
def MadeUp (Z : DK) (w0 : World) (n r : Nat) (en : Ending) (W' : World) : Prop :=
 ∃ gd g gp p j, en = .returned (.tuple #[.pointer (some ⟨gd, 0, none⟩), .pointer (some ⟨g, 0, none⟩)]) /\ UpB Z w0 W' g gd gp n p j (fun _ => False) /\ SJ p n (2 * n + 2) j 1 0 r (fun _ => zsec) /\ p.m.powers = 0
theorem made_any (Z : DK) (w0 w : World) (hb0 : Below w0.heap.size w0 w) (n r : Nat) (h1 : 32 <= n) (h2 : n <= 4096) (r1 : 8 <= r) (r2 : r <= 1024) (r3 : r + 10 <= n) :
 Calls Tryz.prog 35 #[.int .i64 (n : Int), .int .i64 (r : Int)] w (MadeUp Z w0 n r) := by
 have CN : Hid (Calls Tryz.prog 67 #[.int .i64 (n : Int)] w fun e W' => ∃ g, e = .returned (.pointer (some ⟨g, 0, none⟩)) /\ OnD Z w0 W' g n (newM n)) := lH (new_up Z w0 w hb0 n h1 h2)
 obtain ⟨q0, c0⟩ := QP.new n h1 h2
 have hpw : (fmtP (newM n) n r).m.powers = 0 := fmtP_powers _ _ _
 have ds : DS (fmtP (newM n) n r) n (0 + n + 1) 1 r (fun _ => zsec) := DS.fmt q0 (by omega) r r1 r2 r3
 have CF : Hid (∀ gd W, OnD Z w0 W gd n (newM n) -> Calls Tryz.prog 68 #[.pointer (some ⟨gd, 0, none⟩), .int .i64 (r : Int)] W fun en W' => (∃ e : Int, en = .returned (.int .i64 e)) /\ OnD Z w0 W' gd n (fmtP (newM n) n r).m) := lH (fun gd W a => (format_up a r q0.ok (by show 0 <= _; omega) r1 r2 r3).mono (by rintro en W' ⟨h, h'⟩; exact ⟨⟨_, h⟩, h'⟩))
 have CO : Hid (∀ gd W, OnD Z w0 W gd n (fmtP (newM n) n r).m -> Calls Tryz.prog 69 #[.pointer (some ⟨gd, 0, none⟩)] W fun en W' => ∃ g gp p' j', en = .returned (.tuple #[.pointer (some ⟨g, 0, none⟩), .int .i64 0]) /\ UpB Z w0 W' g gd gp n p' j' (fun _ => False) /\ SJ p' n (0 + n + 1 + n + 1) j' 1 0 r (fun _ => zsec) /\ p'.m.powers = (fmtP (newM n) n r).m.powers /\ W.heap.size <= g /\ Only (fun k => ¬ False) W W') := lH (fun gd W a => a.b.open_ ds (by omega))
 obtain ⟨P1, hP1⟩ : ∃ P1, fmtP (newM n) n r = P1 := ⟨_, rfl⟩
 obtain ⟨M0, hM0⟩ : ∃ M0, newM n = M0 := ⟨_, rfl⟩
 rw [hP1] at CF CO hpw
 rw [hM0] at CN CF
 have PW := lH hpw
 obtain ⟨V2, hV2⟩ : ∃ V2, 0 + n + 1 + n + 1 = V2 := ⟨_, rfl⟩
 rw [hV2] at CO
 have HV := lH hV2
 clear q0 c0 ds hP1 hM0 hpw hV2 h1 h2 r1 r2 r3 hb0
 go_enter Tryz.func35, Tryz.ntmps35
 go_wp2_with (first
  | (go_at_call 67; refine CN.out.mono ?_; rintro e w1 ⟨gd, rfl, a1⟩
     have A1 := lH a1
     clear a1)
  | (go_at_call 68; refine (CF.out _ _ A1.out).mono ?_; rintro e w2 ⟨⟨ef, rfl⟩, a2⟩
     have A2 := lH a2
     clear a2)
  | (go_at_call 69; refine (CO.out _ _ A2.out).mono ?_; rintro e w3 ⟨g, gp, p, j, rfl, a3, b3, c3, _, _⟩
     have A3 := lH a3
     have B3 := lH b3
     have C3 := lH c3
     clear a3 b3 c3))
 go_ret2
 exact ⟨gd, g, gp, p, j, rfl, A3.out, by have := HV.out; exact B3.out.more (by omega), C3.out.trans PW.out⟩
end
theorem frK_succ (ws : List ByteArray) (k : Nat) : frK ws (k + 1) = if (ws.getD k emp).size = 0 then frK ws k else frK ws k ++ [k] := (frM ws).wtK_succ k
theorem frK_cnt {ws : List ByteArray} {i : Nat} (hi : i < ws.length) {s : ByteArray} (hs : s.size ≠ 0) : ∀ k, (frK (ws.set i s) k).length = (frK ws k).length + if i < k /\ (ws.getD i emp).size = 0 then 1 else 0
 | 0 => by rw [if_neg (by omega)]; rfl
 | k + 1 => by
   have ih := frK_cnt hi hs k
   rw [frK_succ, frK_succ, getD_set _ _ _ _ hi]
   by_cases e : i = k
   · subst e
     rw [if_pos rfl, if_neg hs]
     rw [if_neg (by omega)] at ih
     by_cases h0 : (ws.getD i emp).size = 0
     · rw [if_pos h0, if_pos ⟨by omega, h0⟩, List.length_append, ih]
       rfl
     · rw [if_neg h0, if_neg (fun h => h0 h.2), List.length_append, List.length_append, ih]
       rfl
   · rw [if_neg e]
     have ec : (if i < k + 1 /\ (ws.getD i emp).size = 0 then 1 else 0) = if i < k /\ (ws.getD i emp).size = 0 then 1 else 0 := by
      by_cases hik : i < k
      · by_cases h0 : (ws.getD i emp).size = 0
        · rw [if_pos ⟨by omega, h0⟩, if_pos ⟨hik, h0⟩]
        · rw [if_neg (fun h => h0 h.2), if_neg (fun h => h0 h.2)]
      · rw [if_neg (by omega), if_neg (by omega)]
     rw [ec]
     by_cases h0 : (ws.getD k emp).size = 0
     · rw [if_pos h0, if_pos h0, ih]
     · rw [if_neg h0, if_neg h0, List.length_append, List.length_append, ih]
       show _ + 1 = _ + 1 + _
       omega
theorem frK_rep (N k : Nat) : (frK (List.replicate N emp) k).length = 0 := by rw [frK_nil]; rfl
theorem rep_emp (N i : Nat) : ((List.replicate N emp).getD i emp).size = 0 := by
 rw [List.getD_eq_getElem?_getD, List.getElem?_replicate]
 split <;> rfl
section
variable {Z : DK} {w : World}
end
end Go.Proofs.YthoebjekkfhhgaaGreat
