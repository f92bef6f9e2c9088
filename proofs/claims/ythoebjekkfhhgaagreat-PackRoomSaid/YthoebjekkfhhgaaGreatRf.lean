/-
  Own work.
-/
import Derived.RangeFuncNested
import Derived.RangeFuncBound
import Derived.RangeFuncCalls
import Derived.RangeFuncLeaves
import Derived.Test.YthoebjekkfhhgaaGreatG1
set_option linter.unusedVariables false
set_option linter.unusedSimpArgs false
namespace Go.Proofs.YthoebjekkfhhgaaGreat
open Go.RowKit
theorem only_putObj (W : World) (l : Nat) (o : Obj) : Only (fun k => k = l) W (W.putObj l o) := by
 have h := grownBy_putObj' W l o
 exact ⟨h.os, h.tape, h.output, h.size, fun k hk hn => h.block k hk (fun e => hn (by cases e; rfl))⟩
section
variable {α : Type} {F : Fence} {n : Nat} {P : Program}
def SeqX (F : Fence) (n : Nat) (P : Program) (g : Nat) (lb : Array Value) (encs : α -> Array Value) (s0 : α) (G Z : α -> Prop) (nx : α -> α) (Kc : World -> Prop) : Prop :=
 ∀ (l : Nat) (J Jx : α -> World -> Prop) (W : World),
   (∀ s W W', J s W -> Only (fun _ => False) W W' -> J s W') -> (∀ s W, J s W -> Kc W) ->
   (∀ s W1, G s -> J s W1 -> YieldAt F (n - 1) P l (encs s) W1 fun e W' => (e = .returned (.bool true) /\ J (nx s) W') \/ (e = .returned (.bool false) /\ Jx s W')) ->
   J s0 W -> CallsIn F n P g (#[.func (.yield l) #[] #[]] ++ lb) W fun e W' => (∃ v, e = .returned v) /\ ((∃ s, Z s /\ J s W') \/ ∃ s, G s /\ Jx s W')
def postX (B : Nat) (I : World -> Prop) (Ix : Code -> World -> Prop) (W : World) : Exit -> Act -> World -> Prop
 | .normal, _, W' => (W'.heap[B]? = W.heap[B]? /\ W'.heap[B + 1]? = W.heap[B + 1]?) /\ I W'
 | .ret, _, W' => (W'.heap[B]? = W.heap[B]? /\ W'.heap[B + 1]? = W.heap[B + 1]?) /\ Ix .ret W'
 | .exit id, _, W' => (W'.heap[B]? = W.heap[B]? /\ W'.heap[B + 1]? = W.heap[B + 1]?) /\ Ix (.exit id) W'
 | .goto t, _, W' => (W'.heap[B]? = W.heap[B]? /\ W'.heap[B + 1]? = W.heap[B + 1]?) /\ Ix (.goto t) W'
 | .panic _, _, _ => False
 | .outgrown, _, _ => False
def two (B k : Nat) : Prop := k = B \/ k = B + 1
theorem wpIn_rangeX {g : Operand} {ps : Array Tmp} {assign body : Code} {Q : Exit -> Act -> World -> Prop} {a : Act} {w : World}
 (hro : F.round = none) (h1 : 1 <= n) {gf : Nat} {lb : Array Value} (hg : a.eval g = .func (.func gf) #[] lb) (hFg : F.fn gf) (eg : ∀ args w, (callFunc gf args).run P w = .ok (.enter gf args) w)
 {encs : α -> Array Value} {s0 : α} {G Z : α -> Prop} {nx : α -> α} {Kc : World -> Prop} (hseq : SeqX F (n - 1) P gf lb encs s0 G Z nx Kc) (hps : ∀ x, (encs x).size = ps.size)
 (I : α -> World -> Prop) (Ix : Code -> α -> World -> Prop) (hI : ∀ s W W', I s W -> Only (two w.heap.size) W W' -> I s W') (hIx : ∀ c s W W', Ix c s W -> Only (two w.heap.size) W W' -> Ix c s W') (hKc : ∀ s W, I s W -> Kc W)
 (h0 : ∀ W1, Only (fun _ => False) w W1 -> W1.heap.size = w.heap.size + 2 -> I s0 W1)
 (Ax : α -> Act -> World -> Prop) (hAx : ∀ x a' W W', Ax x a' W -> Only (two w.heap.size) W W' -> Ax x a' W')
 (hassign : ∀ (l : Nat) (x : α) (W : World) (K : Act -> World -> Prop), G x -> I x W -> (∀ a' W', Only (fun _ => False) W W' -> I x W' -> Ax x a' W' -> K a' W') ->
   assign.wpIn (F.inRound l) (n - 1 - 1) P (Exit.then K (fun _ _ _ => False)) { tmps := (ps.zip (encs x)).foldl (fun t (p, v) => t.setIfInBounds p v) a.tmps, defers := [] } W)
 (hbody : ∀ (l : Nat) (x : α) (a' : Act) (W : World), G x -> w.heap.size + 2 <= W.heap.size -> I x W -> Ax x a' W -> body.wpIn (F.inRound l) (n - 1 - 1) P (postX w.heap.size (I (nx x)) (fun c => Ix c x) W) a' W)
 (hdone : ∀ s W, Z s -> I s W -> W.heap[w.heap.size]? = some (.deferred (some [])) -> Q .normal { a with defers := { target := .collected w.heap.size, args := #[] } :: a.defers } W)
 (hstop : ∀ (c : Code) (s : α) (W : World), G s -> Ix c s W -> W.heap[w.heap.size]? = some (.deferred (some [])) -> c.wpIn F n P Q { a with defers := { target := .collected w.heap.size, args := #[] } :: a.defers } W) :
 (Code.rangeFunc g ps assign body).wpIn F n P Q a w := by
 refine wpIn_rangeFunc fun fn hfn => ?_
 rw [hro]
 obtain ⟨B, hB⟩ : ∃ B, w.heap.size = B := ⟨_, rfl⟩
 let rec_ : LoopState -> Option Code -> Loop := fun st pe => { state := st, pending := pe, fn, tmps := a.tmps, params := ps, assign, body, defers := w.heap.size }
 obtain ⟨rec, hrec⟩ : ∃ rec, rec = rec_ := ⟨_, rfl⟩
 obtain ⟨W1, hW1⟩ : ∃ W1, (w.alloc (.deferred (some []))).alloc (.loop (rec .ready none)) = W1 := ⟨_, rfl⟩
 have hs1 : W1.heap.size = B + 2 := by rw [<- hW1, World.size_alloc, World.size_alloc, hB]
 have hL1 : W1.heap[B + 1]? = some (.loop (rec .ready none)) := by
  rw [<- hW1, <- hB]; have := World.alloc_heap_new (w.alloc (.deferred (some []))) (.loop (rec .ready none)); rwa [World.size_alloc] at this
 have hK1 : W1.heap[B]? = some (.deferred (some [])) := by
  rw [<- hW1, <- hB]; exact (Below.heap_alloc _ _ _ (by simp)).trans (World.alloc_heap_new w _)
 have ho1 : Only (fun _ => False) w W1 := by rw [<- hW1]; exact ((Only.refl _ w).alloc _).alloc _
 have turn : ∀ (W : World) (o : Obj), Only (two w.heap.size) W (W.putObj (B + 1) o) := fun W o => (only_putObj W (B + 1) o).mono (fun k _ hk => .inr (by rw [hB]; exact hk))
 refine ⟨B + 1, [{ target := .collected B, args := #[] }], W1, { target := .fn (.func gf) lb, args := #[.func (.yield (B + 1)) #[] #[]] }, W1, gf, #[.func (.yield (B + 1)) #[] #[]] ++ lb, W1, ?_, ?_, ?_, ?_, fun _ => h1, ?_⟩
 · rw [<- hW1, hrec, <- hB]; exact run_enterLoop_outer _ _ _ _ _
 · simp only [resolve, hg]
   simp [go_sem]
 · intro f' hf'; simp [Target.leads] at hf'; subst hf'; exact hFg
 · simp [invoke, go_sem, eg]
 · have keep2 : ∀ {W W' : World}, Only (fun _ => False) W W' -> ∀ k o, W.heap[k]? = some o -> W'.heap[k]? = some o := fun h k o hk => (h.block k (Array.getElem?_eq_some_iff.1 hk).1 (fun h => h)).trans hk
   refine (hseq (B + 1)
    (fun pre W => I pre W /\ W.heap[B + 1]? = some (.loop (rec .ready none)) /\ W.heap[B]? = some (.deferred (some [])))
    (fun pre W => ∃ c, Ix c pre W /\ W.heap[B + 1]? = some (.loop (rec .done (some c))) /\ W.heap[B]? = some (.deferred (some []))) W1
    (fun s X Y hs ho => ⟨hI s X Y hs.1 (ho.mono (fun _ _ h => h.elim)), keep2 ho _ _ hs.2.1, keep2 ho _ _ hs.2.2⟩)
    (fun s X hs => hKc s X hs.1) ?_ ⟨h0 W1 ho1 (by rw [hs1, hB]), hL1, hK1⟩).mono ?_
   · rintro x W hxs ⟨hi, hl, hk⟩
     have hy := run_yield (P := P) (args := encs x) hl (by rw [hrec]; exact hps x)
     rw [hrec] at hy
     refine ⟨fn, _, assign, body, hy, roundIn_of_wpIn hfn (hassign _ x W _ hxs hi ?_)⟩
     intro a' X hoX hiX hax
     have hlX := keep2 hoX _ _ hl
     have hkX := keep2 hoX _ _ hk
     have hltX : B + 1 < X.heap.size := (Array.getElem?_eq_some_iff.1 hlX).1
     refine ⟨_, run_beginRound hlX (by rw [hrec]), ?_⟩
     obtain ⟨X2, hX2⟩ : ∃ X2, X.putObj (B + 1) (.loop { rec .ready none with state := .busy }) = X2 := ⟨_, rfl⟩
     rw [hX2]
     have t2 : Only (two w.heap.size) X X2 := by rw [<- hX2]; exact turn _ _
     have hl2 : X2.heap[B + 1]? = some (.loop { rec .ready none with state := .busy }) := by rw [<- hX2]; exact World.putObj_heap_same hltX
     have hk2 : X2.heap[B]? = some (.deferred (some [])) := by rw [<- hX2]; exact (World.putObj_heap_other (by omega)).trans hkX
     refine wpIn_mono (hbody _ x a' X2 hxs (by have := t2.size; omega) (hI _ _ _ hiX t2) (hAx _ _ _ _ hax t2)) ?_
     have fin : ∀ (jump : Option Code) (W3 : World), (W3.heap[B]? = X2.heap[B]? /\ W3.heap[B + 1]? = X2.heap[B + 1]?) ->
      (Instr.endRound (B + 1) jump).run P W3 = .ok (.bool jump.isNone) (W3.putObj (B + 1) (.loop (rec (if jump.isNone then .ready else .done) jump))) /\
      (W3.putObj (B + 1) (.loop (rec (if jump.isNone then .ready else .done) jump))).heap[B + 1]? = some (.loop (rec (if jump.isNone then .ready else .done) jump)) /\
      (W3.putObj (B + 1) (.loop (rec (if jump.isNone then .ready else .done) jump))).heap[B]? = some (.deferred (some [])) := fun jump W3 hk3 => by
      have hl3 := hk3.2.trans hl2
      have := run_endRound (P := P) jump hl3
      rw [hrec] at this ⊢
      exact ⟨this, World.putObj_heap_same (Array.getElem?_eq_some_iff.1 hl3).1, (World.putObj_heap_other (by omega)).trans (hk3.1.trans hk2)⟩
     rintro e a3 W3 hp
     rw [hB] at hp
     cases e with
     | normal =>
       obtain ⟨hr, hl4, hk4⟩ := fin none W3 hp.1
       exact ⟨_, _, hr, .inl ⟨rfl, hI _ _ _ hp.2 (turn _ _), hl4, hk4⟩⟩
     | ret =>
       obtain ⟨hr, hl4, hk4⟩ := fin (some .ret) W3 hp.1
       exact ⟨_, _, hr, .inr ⟨rfl, .ret, hIx _ _ _ _ hp.2 (turn _ _), hl4, hk4⟩⟩
     | exit id =>
       obtain ⟨hr, hl4, hk4⟩ := fin (some (.exit id)) W3 hp.1
       exact ⟨_, _, hr, .inr ⟨rfl, .exit id, hIx _ _ _ _ hp.2 (turn _ _), hl4, hk4⟩⟩
     | goto t =>
       obtain ⟨hr, hl4, hk4⟩ := fin (some (.goto t)) W3 hp.1
       exact ⟨_, _, hr, .inr ⟨rfl, .goto t, hIx _ _ _ _ hp.2 (turn _ _), hl4, hk4⟩⟩
     | panic ch => exact hp.elim
     | outgrown => exact hp.elim
   · rintro e W2 ⟨⟨v, rfl⟩, (⟨s, hpre, hi, hl, hk⟩ | ⟨s, hpre, c, hi, hl, hk⟩)⟩
     · refine ⟨none, _, by have := run_endLoop (P := P) hl (by rw [hrec]; simp [rec_]); rw [hrec] at this; exact this, ?_⟩
       have key := fun o => hdone s (W2.putObj (B + 1) o) hpre (hI _ _ _ hi (turn W2 o)) (by rw [hB]; exact (World.putObj_heap_other (by omega)).trans hk)
       rw [hB] at key
       exact key _
     · refine ⟨some c, _, by have := run_endLoop (P := P) hl (by rw [hrec]; simp [rec_]); rw [hrec] at this; exact this, ?_⟩
       have key := fun o => hstop c s (W2.putObj (B + 1) o) hpre (hIx _ _ _ _ hi (turn W2 o)) (by rw [hB]; exact (World.putObj_heap_other (by omega)).trans hk)
       rw [hB] at key
       exact key _
end
end Go.Proofs.YthoebjekkfhhgaaGreat
