/-
  Own work.
-/
import Derived.Test.YthoebjekkfhhgaaGreatCp9
import Derived.Test.YthoebjekkfhhgaaGreatJy
set_option linter.unusedVariables false
set_option linter.unusedSimpArgs false
set_option maxRecDepth 100000
set_option maxHeartbeats 8000000
namespace Go.Proofs.YthoebjekkfhhgaaGreat
open Go.RowKit Go.Maps
structure SetI (D : DU) (seen : List Int) : Prop where
 ism : IsMap D
 hs : ∀ x : Int, Maps.has D (.int .i64 x) = decide (x ∈ seen)
theorem SetI.nil : SetI (.map []) [] := ⟨isMap_empty, fun x => by simp [Maps.has]⟩
theorem SetI.put {D : DU} {seen : List Int} (h : SetI D seen) (x : Int) (d : DU) : SetI (D.put (.int .i64 x) d) (x :: seen) := by
 refine ⟨h.ism.put _ _, fun y => ?_⟩
 by_cases e : y = x
 · subst e
   rw [has_put_same h.ism (by simp [WideAt.IsKeyLit])]
   simp
 · rw [has_put_other (fun e' => e (by injection e')), h.hs y]
   simp [e]
theorem keyZ {x : Int} (h : -9223372036854775808 <= x /\ x <= 9223372036854775807) : keyOf Tryz.prog 3 (.int .i64 x) = some (.int .i64 x) := keyOf_int_mk Tryz.underlying3 (by
 have hm : IntKind.i64.min = -9223372036854775808 := rfl
 have hM : IntKind.i64.max = 9223372036854775807 := rfl
 simp [Lit.wf, hm, hM]
 omega)
theorem zeroUnit (w : World) : (zeroValue 193).run Tryz.prog w = .ok (.agg #[]) w := by
 have h : (Tryz.prog.info? 193).bind (·.zero) = some (.agg #[]) := by kernel_rfl
 cases hi : Tryz.prog.info? 193 with
 | none => simp [hi] at h
 | some i =>
   simp only [hi, Option.bind_some] at h
   simp [zeroValue, typeInfo, hi, h, Result.andThen]
theorem ownsMap_newU (w : World) : (w.alloc (.map #[] 0)).ownsMap Tryz.prog 3 unitElem w.heap.size 0 (.map [] : DU) :=
 ⟨#[], 0, heap_alloc_new w _, ⟨by simp, MapKept.stamped_empty 0, by simp⟩, Nat.le_refl _, rfl⟩
theorem ownsMapU_only {w w' : World} {S : Nat -> Prop} {b c : Nat} {D : DU} (h : w.ownsMap Tryz.prog 3 unitElem b c D) (ho : Only S w w') (hS : ¬ S b) : w'.ownsMap Tryz.prog 3 unitElem b c D := by
 have hlt := h.lt
 obtain ⟨es, clock, hb, r⟩ := h
 exact ⟨es, clock, (ho.block b hlt hS).trans hb, r⟩
section
variable {Z : DK} {w w' W W' : World} {g gd gp n : Nat} {S T : Nat -> Prop} {e : Int} {j : JM} {m : RM} {p : Pt}
theorem jlist_any (A : Option Addr) (nl cl : Nat) (l : List Pu) (h : JO w g gd gp n p.e j) (d : Z.D w gd S n p.m) (ok : p.m.Ok n) (hc : chkE p j = 0) (hp : HasPu w A nl l) (hn : nl <= 1000) (hdl : ∀ x ∈ l, x.data.length <= 1073741824) :
 Calls Tryz.prog 73 #[.pointer (some ⟨g, 0, none⟩), .slice A nl cl] w (RetV2 w (.int .i64 (lstE n j l))) := by
 have C := lH (jcheck_any h d ok)
 have h8 : chkE ⟨p.m, p.e⟩ j = 0 := hc
 rw [h8] at C
 have H := lH h
 have D0 := lH d
 have HP := lH hp
 have HL := lH hp.1
 have HDL := lH hdl
 have r1 := h.ok.r1
 have r2 := h.ok.r2
 have hglt := h.lt
 obtain ⟨hh, hhh⟩ : ∃ hh, j.homes n = hh := ⟨_, rfl⟩
 have CH : Hid (∀ W i, Below w.heap.size w W -> -9223372036854775808 <= i /\ i <= 9223372036854775807 -> Calls Tryz.prog 112 #[.pointer (some ⟨g, 0, none⟩), .int .i64 i] W (RetV2 W (.bool (decide (0 <= i /\ i < (hh : Int)))))) := lH (fun W i hW hi => by
  have := jishome_any i (h.below hW) (Z.only d (Only.of_below (S := fun _ => False) hW (Nat.le_refl _)) (fun _ _ h => h)) ok hi
  rwa [hhh] at this)
 obtain ⟨R, hR⟩ : ∃ R, lstE n j l = R := ⟨_, rfl⟩
 have HR : Hid ((if lsE hh [] l ≠ 0 then lsE hh [] l else if 40 < nl \/ j.k.ring <= nl then 2 else 0) = R) := lH (by rw [<- hR, <- hhh, HL.out]; rfl)
 rw [hR]
 have hmm : ∀ W : World, (Instr.makeMap 192 none).run Tryz.prog W = .ok (.map (some W.heap.size)) (W.alloc (.map #[] 0)) := fun W => by simp [Instr.makeMap, go_sem, Result.andThen]
 clear h d ok hc h8 hp hdl hR hhh
 go_enter Tryz.func73, Tryz.ntmps73
 go_wp2_with (go_at_call 111; refine C.out.mono ?_; rintro en w1 ⟨rfl, kk, rfl⟩)
 go_loopw [19] (fun i wr => ∃ (k : Nat) (D : DU) (seen : List Int), k <= nl /\ i = .int .i64 (k : Int) /\ wr.ownsMap Tryz.prog 3 unitElem w.heap.size k D /\ SetI D seen /\ lsE hh [] l = lsE hh seen (l.drop k) /\ Below w.heap.size w wr) (fun i _ => nl - (Go.RowKit.intOf i).toNat)
 case atStart =>
  refine ⟨0, .map [], [], by omega, rfl, ?_, SetI.nil, by rw [List.drop_zero], ?_⟩
  · exact ownsMap_newU (w.drewN kk)
  · exact (show Below w.heap.size w (w.drewN kk) from ⟨rfl, rfl, rfl, Nat.le_refl _, fun _ _ => rfl⟩).alloc (Nat.le_refl _) _
 case round =>
  obtain ⟨k, D, seen, hk, rfl, qm, qs, qe, qb⟩ := hrel
  have QM := lH qm
  have QS := lH qs
  have QE := lH qe
  have QB := lH qb
  by_cases hlt' : k < nl
  · obtain ⟨x, hx⟩ : ∃ x, l[k]? = some x := ⟨_, List.getElem?_eq_getElem (by have := HL.out; omega)⟩
    have hd : l.drop k = x :: l.drop (k + 1) := by
     have hkl : k < l.length := by have := HL.out; omega
     rw [List.drop_eq_getElem_cons hkl]
     rw [List.getElem?_eq_getElem hkl] at hx
     injection hx with hx
     rw [hx]
    obtain ⟨g0, o0, rfl, hg0, hcl⟩ := HP.out.2.2 (by omega)
    obtain ⟨B, q, c, k1', k2', hB, hqc⟩ := hcl k x hx
    have k1 := (qb.cell hg0).trans k1'
    have k2 := (qb.cell hg0).trans k2'
    have hq := hB.1
    have hxr := HP.out.2.1 x (List.mem_of_getElem? hx)
    obtain ⟨xi, hxi⟩ : ∃ xi, x.i = xi := ⟨_, rfl⟩
    rw [hxi] at k1 hxr
    have hq2 := HDL.out x (List.mem_of_getElem? hx)
    rw [<- hq] at hq2
    have HD := lH hd
    have HXI := lH hxi
    have HXR := lH hxr
    have HQ := lH hq
    have hs := qs.hs xi
    clear qm qs qe qb hx hd k1' k2' hB hcl hxi hxr hq
    go_upto_region 8 with fail
    generalize hw5 : World.alloc _ _ = w5
    have b5 : Below wr.heap.size wr w5 := by rw [<- hw5]; exact (Below.refl _ _).alloc (Nat.le_refl _) _
    have h5 : w5.heap[wr.heap.size]? = some (.cells #[.int .i64 xi, .slice B q c] 152 (0, 0)) := by rw [<- hw5]; exact heap_alloc_new wr _
    have hlt5 : wr.heap.size < w5.heap.size := (Array.getElem?_eq_some_iff.1 h5).1
    have c50 : w5.cell? ⟨wr.heap.size, 0, none⟩ = some (.int .i64 xi) := cell_of_row w5 _ 0 _ _ (0, 0) h5
    have c51 : w5.cell? ⟨wr.heap.size, 1, none⟩ = some (.slice B q c) := cell_of_row w5 _ 1 _ _ (0, 0) h5
    have C50 := lH c50
    have C51 := lH c51
    have B5 := lH (QB.out.trans (b5.mono QB.out.size))
    have M5 := lH (ownsMapU_only QM.out (Only.of_below (S := fun _ => False) b5 (Nat.le_refl _)) (fun h => h))
    clear b5 h5 hw5
    by_cases hin : xi ∈ seen
    · have HS : Hid (Maps.has D (.int .i64 xi) = true) := lH (by rw [hs]; exact decide_eq_true hin)
      have RV : Hid (R = 1) := lH (by
       have e1 : lsE hh [] l = 1 := by
        rw [QE.out, HD.out, lsE, HXI.out]
        rw [if_pos (.inl hin)]
       rw [<- HR.out, e1, if_pos (by decide)])
      clear hs hin
      go_wp2_with (first
       | (at_lookup; refine wpList_lookup_own_unit _ rfl (.tmp 24) (.tmp 26) 192 rfl 3 193 intK Tryz.underlying192 (zeroUnit _) w.heap.size k D rfl M5.out _ (.int .i64 xi) rfl (keyZ HXR.out) ?_; rw [HS.out]))
      go_ret
      rw [RV.out]
      exact ⟨rfl, B5.out.alloc B5.out.size _⟩
    · have HS : Hid (Maps.has D (.int .i64 xi) = false) := lH (by rw [hs]; exact decide_eq_false hin)
      by_cases hhm : 0 <= xi /\ xi < (hh : Int)
      · have hdm : decide (0 <= xi /\ xi < (hh : Int)) = true := decide_eq_true hhm
        have CH1 : Hid (∀ W, Below w.heap.size w W -> Calls Tryz.prog 112 #[.pointer (some ⟨g, 0, none⟩), .int .i64 xi] W (RetV2 W (.bool true))) := lH (fun W hW => by have := CH.out W xi hW HXR.out; rwa [hdm] at this)
        by_cases hsz : q = 512
        · have QE2 : Hid (lsE hh [] l = lsE hh (xi :: seen) (l.drop (k + 1))) := lH (by
           rw [QE.out, HD.out, lsE, HXI.out, if_neg (by rintro (h1 | h1 | h1); exact hin h1; omega; omega), if_neg (by rw [<- HQ.out, hsz]; exact fun hh => hh rfl)])
          have hsz' : ((q : Int) != 512) = false := by rw [hsz]; rfl
          clear hs hin hhm hdm hsz
          go_wp2_with (first
           | (at_lookup; refine wpList_lookup_own_unit _ rfl (.tmp 24) (.tmp 26) 192 rfl 3 193 intK Tryz.underlying192 (zeroUnit _) w.heap.size k D rfl M5.out _ (.int .i64 xi) rfl (keyZ HXR.out) ?_; rw [HS.out])
           | (go_at_call 112; refine (CH1.out _ (B5.out.alloc B5.out.size _)).mono ?_; rintro en w7 ⟨rfl, b7⟩; have b57 : Below w5.heap.size w5 w7 := ((Below.refl _ w5).alloc (Nat.le_refl _) _).trans (b7.mono (by simp)); have B7 := lH (B5.out.trans (b57.mono B5.out.size)); have c70 : w7.cell? ⟨wr.heap.size, 0, none⟩ = some (.int .i64 xi) := (b57.cell hlt5).trans C50.out; have c71 : w7.cell? ⟨wr.heap.size, 1, none⟩ = some (.slice B q c) := (b57.cell hlt5).trans C51.out; have M7 := lH (ownsMapU_only M5.out (Only.of_below (S := fun _ => False) b57 (Nat.le_refl _)) (fun h => h)); clear b7 b57)
           | (at_mapUpdate; refine wpList_mapUpdate_own w7 rfl (.tmp 42) (.tmp 44) (.tmp 45) 192 rfl 3 193 intK Tryz.underlying192 unitElem w.heap.size k D rfl M7.out (by simp only [maxLen]; omega) _ _ (.int .i64 xi) rfl rfl (keyZ HXR.out) (.agg []) [] unitElem_mk ?_; intro w9 own9 g9
              have M9 := lH own9
              have O9 := lH (Only.grown g9)
              clear own9 g9))
          go_roundw
          case rel => exact ⟨k + 1, D.put (.int .i64 xi) (.agg []), xi :: seen, by omega, by go_num, M9.out, QS.out.put xi _, QE2.out, B7.out.trans (O9.out.to_below (fun k hk => by omega) B7.out.size)⟩
          case measure => simp [Go.RowKit.intOf]; omega
        · have hsz' : ((q : Int) != 512) = true := by rw [bne_iff_ne]; omega
          have RV : Hid (R = 9) := lH (by
           have e1 : lsE hh [] l = 9 := by
            rw [QE.out, HD.out, lsE, HXI.out]
            rw [if_neg (by rintro (h1 | h1 | h1); exact hin h1; omega; omega), if_pos (by rw [<- HQ.out]; exact hsz)]
           rw [<- HR.out, e1, if_pos (by decide)])
          clear hs hin hhm hdm hsz
          go_wp2_with (first
           | (at_lookup; refine wpList_lookup_own_unit _ rfl (.tmp 24) (.tmp 26) 192 rfl 3 193 intK Tryz.underlying192 (zeroUnit _) w.heap.size k D rfl M5.out _ (.int .i64 xi) rfl (keyZ HXR.out) ?_; rw [HS.out])
           | (go_at_call 112; refine (CH1.out _ (B5.out.alloc B5.out.size _)).mono ?_; rintro en w7 ⟨rfl, b7⟩; have b57 : Below w5.heap.size w5 w7 := ((Below.refl _ w5).alloc (Nat.le_refl _) _).trans (b7.mono (by simp)); have B7 := lH (B5.out.trans (b57.mono B5.out.size)); have c70 : w7.cell? ⟨wr.heap.size, 0, none⟩ = some (.int .i64 xi) := (b57.cell hlt5).trans C50.out; have c71 : w7.cell? ⟨wr.heap.size, 1, none⟩ = some (.slice B q c) := (b57.cell hlt5).trans C51.out; have M7 := lH (ownsMapU_only M5.out (Only.of_below (S := fun _ => False) b57 (Nat.le_refl _)) (fun h => h)); clear b7 b57))
          go_ret
          rw [RV.out]
          exact ⟨rfl, B7.out⟩
      · have hdm : decide (0 <= xi /\ xi < (hh : Int)) = false := decide_eq_false hhm
        have CH1 : Hid (∀ W, Below w.heap.size w W -> Calls Tryz.prog 112 #[.pointer (some ⟨g, 0, none⟩), .int .i64 xi] W (RetV2 W (.bool false))) := lH (fun W hW => by have := CH.out W xi hW HXR.out; rwa [hdm] at this)
        have RV : Hid (R = 1) := lH (by
         have e1 : lsE hh [] l = 1 := by
          rw [QE.out, HD.out, lsE, HXI.out]
          rw [if_pos (by by_cases h1 : xi < 0; exact .inr (.inl h1); exact .inr (.inr (by omega)))]
         rw [<- HR.out, e1, if_pos (by decide)])
        clear hs hin hhm hdm
        go_wp2_with (first
         | (at_lookup; refine wpList_lookup_own_unit _ rfl (.tmp 24) (.tmp 26) 192 rfl 3 193 intK Tryz.underlying192 (zeroUnit _) w.heap.size k D rfl M5.out _ (.int .i64 xi) rfl (keyZ HXR.out) ?_; rw [HS.out])
         | (go_at_call 112; refine (CH1.out _ (B5.out.alloc B5.out.size _)).mono ?_; rintro en w7 ⟨rfl, b7⟩; have b57 : Below w5.heap.size w5 w7 := ((Below.refl _ w5).alloc (Nat.le_refl _) _).trans (b7.mono (by simp)); have B7 := lH (B5.out.trans (b57.mono B5.out.size)); have c70 : w7.cell? ⟨wr.heap.size, 0, none⟩ = some (.int .i64 xi) := (b57.cell hlt5).trans C50.out; have c71 : w7.cell? ⟨wr.heap.size, 1, none⟩ = some (.slice B q c) := (b57.cell hlt5).trans C51.out; have M7 := lH (ownsMapU_only M5.out (Only.of_below (S := fun _ => False) b57 (Nat.le_refl _)) (fun h => h)); clear b7 b57))
        go_ret
        rw [RV.out]
        exact ⟨rfl, B7.out⟩
  · obtain rfl : k = nl := by omega
    have hdr : l.drop k = [] := List.drop_eq_nil_of_le (by have := HL.out; omega)
    have e0 : lsE hh [] l = 0 := by rw [qe, hdr, lsE]
    have HR2 : Hid ((if 40 < k \/ j.k.ring <= k then (2 : Int) else 0) = R) := lH (by have q := HR.out; rw [e0, if_neg (show ¬ ((0 : Int) ≠ 0) from fun q => q rfl)] at q; exact q)
    have c5 := (H.out.below qb).c5
    have er : IntKind.i64.wrap (j.k.ring : Int) = (j.k.ring : Int) := by rw [IntKind.wrap_i64]; omega
    clear qm qs qe qb hdr e0
    by_cases h40 : 40 < k
    · have RV : Hid (R = 2) := lH (by rw [<- HR2.out, if_pos (.inl h40)])
      have h40' : (40 : Int) < (k : Int) := by omega
      go_wp2_with fail
      go_ret
      rw [RV.out]
      exact ⟨rfl, QB.out⟩
    · have h40' : decide ((40 : Int) < (k : Int)) = false := decide_eq_false (by omega)
      by_cases hrg : j.k.ring <= k
      · have RV : Hid (R = 2) := lH (by rw [<- HR2.out, if_pos (.inr hrg)])
        have hrg' : (j.k.ring : Int) <= (k : Int) := by omega
        clear h40
        go_wp2_with fail
        go_ret
        rw [RV.out]
        exact ⟨rfl, QB.out⟩
      · have RV : Hid (R = 0) := lH (by rw [<- HR2.out, if_neg (by omega)])
        have hrg' : decide ((j.k.ring : Int) <= (k : Int)) = false := decide_eq_false (by omega)
        have hrg2 : ¬ ((j.k.ring : Int) <= (k : Int)) := by omega
        have hrg3 : (k : Int) < (j.k.ring : Int) := by omega
        clear h40 hrg
        go_wp2_with fail
        go_ret
        rw [RV.out]
        exact ⟨rfl, QB.out⟩
end
end Go.Proofs.YthoebjekkfhhgaaGreat
