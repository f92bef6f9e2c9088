/-
  Own work.
-/
import Derived.Test.YthoebjekkfhhgaaGreatCp9
import Derived.Test.YthoebjekkfhhgaaGreatRf
import Derived.Shelf.RegionOpen
import Derived.WalkKit
import Derived.OwnWalkIn
import Derived.TacticsInMore
import Derived.LoopNIn
import Derived.LoopIn
import Derived.Test.YthoebjekkfhhgaaGreatJ1
set_option linter.unusedVariables false
set_option linter.unusedSimpArgs false
set_option maxRecDepth 100000
set_option maxHeartbeats 8000000
namespace Go.Proofs.YthoebjekkfhhgaaGreat
open Go.RowKit Go.Shelf
attribute [local go_sem] Oper.semAt_some
def pcT (at_ n d : Nat) : Nat := min ((at_ + d) % 512 + (n - d)) 512
def pcA (st at_ n d : Nat) : Array Value := #[.agg #[.int .i64 ((st + (at_ + d) / 512 : Nat) : Int), .int .i64 (((at_ + d) % 512 : Nat) : Int), .int .i64 ((pcT at_ n d : Nat) : Int)]]
def pcN (at_ n d : Nat) : Nat := d + (pcT at_ n d - (at_ + d) % 512)
def PcK (bs st at_ n : Nat) (W : World) : Prop := W.cell? ⟨bs, 0, none⟩ = some (.int .i64 (st : Int)) /\ W.cell? ⟨bs + 1, 0, none⟩ = some (.int .i64 (at_ : Int)) /\ W.cell? ⟨bs + 2, 0, none⟩ = some (.int .i64 (n : Int))
theorem pieces_any (st at_ n : Nat) (w : World) : Calls Tryz.prog 97 #[.int .i64 (st : Int), .int .i64 (at_ : Int), .int .i64 (n : Int)] w fun e w' =>
 e = .returned (.func (.func 130) #[] #[.pointer (some ⟨w.heap.size + 2, 0, none⟩), .pointer (some ⟨w.heap.size + 1, 0, none⟩), .pointer (some ⟨w.heap.size, 0, none⟩)]) /\ PcK w.heap.size st at_ n w' /\ Below w.heap.size w w' /\ w'.heap.size = w.heap.size + 3 := by
 go_enter Tryz.func97, Tryz.ntmps97
 go_wp2_with fail
 go_ret
 obtain ⟨W1, h1⟩ : ∃ W1, w.alloc (.cells #[.int .i64 (st : Int)] 3) = W1 := ⟨_, rfl⟩
 obtain ⟨W2, h2⟩ : ∃ W2, W1.alloc (.cells #[.int .i64 (at_ : Int)] 3) = W2 := ⟨_, rfl⟩
 obtain ⟨W3, h3⟩ : ∃ W3, W2.alloc (.cells #[.int .i64 (n : Int)] 3) = W3 := ⟨_, rfl⟩
 have s1 : W1.heap.size = w.heap.size + 1 := by rw [<- h1, World.size_alloc]
 have s2 : W2.heap.size = w.heap.size + 2 := by rw [<- h2, World.size_alloc, s1]
 have s3 : W3.heap.size = w.heap.size + 3 := by rw [<- h3, World.size_alloc, s2]
 have x1 : W1.heap[w.heap.size]? = some (.cells #[.int .i64 (st : Int)] 3) := by rw [<- h1]; exact heap_alloc_new w _
 have x2 : W2.heap[w.heap.size + 1]? = some (.cells #[.int .i64 (at_ : Int)] 3) := by rw [<- h2, <- s1]; exact heap_alloc_new W1 _
 have x3 : W3.heap[w.heap.size + 2]? = some (.cells #[.int .i64 (n : Int)] 3) := by rw [<- h3, <- s2]; exact heap_alloc_new W2 _
 have b1 : Below w.heap.size w W1 := by rw [<- h1]; exact (Below.refl _ _).alloc (Nat.le_refl _) _
 have b2 : Below W1.heap.size W1 W2 := by rw [<- h2]; exact (Below.refl _ _).alloc (Nat.le_refl _) _
 have b3 : Below W2.heap.size W2 W3 := by rw [<- h3]; exact (Below.refl _ _).alloc (Nat.le_refl _) _
 rw [h1, h2, h3]
 refine ⟨rfl, ⟨?_, ?_, ?_⟩, (b1.trans (b2.mono (by omega))).trans (b3.mono (by omega)), s3⟩
 · rw [cell_of_row _ _ _ _ _ _ ((b3.block _ (by omega)).trans ((b2.block _ (by omega)).trans x1))]; rfl
 · rw [cell_of_row _ _ _ _ _ _ ((b3.block _ (by omega)).trans x2)]; rfl
 · rw [cell_of_row _ _ _ _ _ _ x3]; rfl
theorem PcK.only {bs st at_ n : Nat} {W W' : World} {S : Nat -> Prop} (a : PcK bs st at_ n W) (ho : Only S W W') (h : ∀ k, bs <= k -> k <= bs + 2 -> ¬ S k) : PcK bs st at_ n W' :=
 ⟨cell_only ho (h _ (by simp) (by simp)) a.1, cell_only ho (h _ (by simp) (by simp)) a.2.1, cell_only ho (h _ (by simp) (by simp)) a.2.2⟩
theorem pieces1_seq (F : Fence) (n : Nat) (hF : F.fn 130) (hro : F.round = none) (hn : 1 <= n) (bs st at_ N : Nat) (h1 : st <= 4294967296) (h2 : at_ <= 4294967296) (h3 : N <= 4294967296) :
 SeqX F n Tryz.prog 130 #[.pointer (some ⟨bs + 2, 0, none⟩), .pointer (some ⟨bs + 1, 0, none⟩), .pointer (some ⟨bs, 0, none⟩)] (pcA st at_ N) 0 (fun d => d < N) (fun d => d = N) (pcN at_ N) (PcK bs st at_ N) := fun l J Jx W hJ hKc hY h0 => by
 have HJK := lH hKc
 have HY := lH hY
 clear hJ hKc hY
 refine callsIn_of_wp Tryz.func130 rfl hF ?_ hro
 simp only [Tryz.ntmps130, List.size_toArray, List.length_cons, List.length_nil, Nat.reduceAdd, Nat.reduceSub, Array.replicate_succ, Array.replicate_zero, List.push_toArray, List.append_toArray, List.nil_append, List.cons_append]
 gi_wp2
 gi_loopw [5] (fun x wr => ∃ d : Nat, d <= N /\ x = .int .i64 (d : Int) /\ J d wr) (fun x wr => N - (Go.RowKit.intOf x).toNat)
 case atStart => exact ⟨0, Nat.zero_le _, rfl, h0⟩
 case round =>
  obtain ⟨d, hd, rfl, hJs⟩ := hrel
  obtain ⟨k1, k2, k3⟩ := HJK.out d wr hJs
  by_cases hlt : d < N
  · obtain ⟨fn, tmps, assign, body, hy, hR⟩ := HY.out d wr hlt hJs
    obtain ⟨fr, hfr⟩ : ∃ fr, (at_ + d) % 512 = fr := ⟨_, rfl⟩
    obtain ⟨tt, hto⟩ : ∃ tt, pcT at_ N d = tt := ⟨_, rfl⟩
    obtain ⟨sec, hsec⟩ : ∃ sec, st + (at_ + d) / 512 = sec := ⟨_, rfl⟩
    have hA : pcA st at_ N d = #[.agg #[.int .i64 (sec : Int), .int .i64 (fr : Int), .int .i64 (tt : Int)]] := by unfold pcA; rw [hfr, hto, hsec]
    have hNx : pcN at_ N d = d + (tt - fr) := by unfold pcN; rw [hfr, hto]
    have hto2 : tt = min (fr + (N - d)) 512 := by rw [<- hto]; unfold pcT; rw [hfr]
    rw [hA] at hy
    have HNX := lH hNx
    have f1 : fr < 512 := by omega
    have f2 : fr < tt := by omega
    have f3 : tt <= 512 := by omega
    have f4 : tt - fr <= N - d := by omega
    have e1 : ((at_ : Int) + (d : Int)) % 512 = (fr : Int) := by omega
    have e2 : (st : Int) + ((at_ : Int) + (d : Int)) / 512 = (sec : Int) := by omega
    have e3 : (if (512 : Int) < (fr : Int) + (N : Int) - (d : Int) then (512 : Int) else (fr : Int) + (N : Int) - (d : Int)) = (tt : Int) := by split <;> omega
    clear hA hNx hto hto2 hfr hsec
    gi_wp2
    refine hR.mono ?_
    rintro e W3 (⟨rfl, hJ3⟩ | ⟨rfl, hJx3⟩)
    · gi_wp2
      go_roundw
      case rel => exact ⟨d + (tt - fr), by omega, by first | (congr 1; omega) | (congr 2; omega), by rw [<- HNX.out]; exact hJ3⟩
      case measure => simp [Go.RowKit.intOf]; omega
    · gi_wp2
      refine bodyPost_ret (results_none rfl _ _ _) rfl ?_
      exact ⟨⟨_, rfl⟩, .inr ⟨d, hlt, hJx3⟩⟩
  · obtain rfl : d = N := by omega
    gi_wp2
    go_end0
    exact ⟨⟨_, rfl⟩, .inl ⟨d, rfl, hJs⟩⟩
end Go.Proofs.YthoebjekkfhhgaaGreat
