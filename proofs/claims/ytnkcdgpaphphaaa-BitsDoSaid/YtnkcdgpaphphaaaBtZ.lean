/- Vectors of inputs, and their model. -/
import Derived.Test.YtnkcdgpaphphaaaBtY
namespace Go.Proofs.Ytnkcdgpaphphaaa.Gr
open Go Go.RowKit Go.Lib Go.Maps

/-- What a vector of inputs is worth at the law's model. -/
theorem in_vx {P : Prop} {w wr : World} {G G' : Loc} {L : List Nd} {b n : Nat} (h : Fil w wr G G' (L ++ List.replicate n none) b n (inE L n) (List.replicate n 0)) (hP : ¬ P) : VX P wr G' (L ++ List.replicate n none) (some ⟨b, 0, none⟩) (inE L n) n (fun m => (List.range n).map fun i => m (ins L + i)) :=
  ⟨h.vec (by rw [inE_len, List.length_replicate]), inE_len L n, inE_lt L n, fun m => inE_val m L n, fun p => absurd p hP⟩
/-- More inputs behind it. -/
theorem VX.ins {P : Prop} {w wr : World} {G G' : Loc} {L : List Nd} {a : Option Addr} {es : List Nat} {n b k : Nat} {F : (Nat → Bool) → List Bool} {fs : List Nat} (h : VX P w G L a es n F) (hf : Fil w wr G G' (L ++ List.replicate k none) b k fs (List.replicate k 0)) : VX P wr G' (L ++ List.replicate k none) a es n F :=
  ⟨h.vec.fr hf.fr, h.len, fun e he => by have := h.own e he; rw [List.length_append, List.length_replicate]; omega, fun m => by
    rw [← h.val m]; exact List.map_congr_left fun e he => val_app m (h.own e he), h.con⟩
theorem bits_own {W w w' : World} {a : Int} {k : Nat} (hW : W.heap.size ≤ w.heap.size) (h : RowAt w' w.heap.size 4 k (fun i => .bool (bitI a i))) (hk : k ≤ 1000) : w'.ownsRow W.heap.size 4 1 (.slice (some ⟨w.heap.size, 0, none⟩) k k) k ((bitsL a k).map Value.bool) := by
  have := OwnB.of_row (W := W) (bs := bitsL a k) h hW (bitsL_len a k) (fun i hi => bitsL_get hi) hk
  unfold OwnB at this
  rwa [bitsL_len] at this

end Go.Proofs.Ytnkcdgpaphphaaa.Gr
