/- Contracts of difference, magnitude, Some, Add, Sub. -/
import Derived.Test.YtnkcdgpaphphaaaBtD
namespace Go.Proofs.Ytnkcdgpaphphaaa.Gr
open Go Go.RowKit Go.Lib Go.Maps

set_option maxRecDepth 100000 in
set_option maxHeartbeats 1000000 in
theorem diff_any {P : Prop} {w : World} {G : Loc} {L : List Nd} (h : Rep w G L) (hW : Wf L) (a : Option Addr) (xs : List Nat) (c : Nat) (a2 : Option Addr) (ys : List Nat) (c2 : Nat) (n : Nat) (hx : Vec w G a xs) (hy : Vec w G a2 ys) (hnx : xs.length = n) (hny : ys.length = n) (hn1 : 1 ≤ n) (hn : n ≤ 16) (he : ∀ e ∈ xs, e < 2 * (L.length + 1)) (he2 : ∀ e ∈ ys, e < 2 * (L.length + 1)) (hP : P → (∀ e ∈ xs, e ≤ 1) ∧ (∀ e ∈ ys, e ≤ 1)) (hl : L.length < 110000) :
    Calls Try.prog 65 #[.pointer (some ⟨G.h, 0, none⟩), .slice a n c, .slice a2 n c2] w (SumE w G P L (9 * n) n (fun m => (subL (xs.map (Gr.val m L)) (ys.map (Gr.val m L))).1) (fun m => (subL (xs.map (Gr.val m L)) (ys.map (Gr.val m L))).2)) := by
  obtain ⟨p2, o2, rfl, hy1⟩ := hy.resolve_left (by omega)
  have HVX := Lib.hid (And.intro hx hy)
  have HC := Lib.hid (And.intro hW (And.intro he (And.intro he2 (And.intro hP hl))))
  have HNN := Lib.hid (And.intro hnx (And.intro hny (And.intro hn1 hn)))
  have hm := fun W => run_make_row' (P := Try.prog) 31 3 (.int .i64 0) 8 Try.underlying31 infoInt rfl .i64 .i64 n (by omega) (by omega) W
  have START : Hid (Fil w (w.alloc (.cells (madeCells #[.int .i64 0] n) 3)) G G L w.heap.size n ((ys.take 0).map neg) (List.replicate n 0)) := Fil.made h (Fr.refl _ _) n
  clear h hW hx hy hy1 he he2 hP hl hnx hny
  go_enter Try.func65, Try.ntmps65
  go_wp2_with fail
  go_loopw [9, 10, 16] (fun _ _ iv wr => ∃ k : Nat, iv = .int .i64 (k : Int) ∧ k ≤ n ∧ Hid (Fil w wr G G L w.heap.size n ((ys.take k).map neg) (List.replicate n 0))) (fun _ _ iv _ => n - (RowKit.intOf iv).toNat)
  case atStart => exact ⟨0, rfl, Nat.zero_le _, START⟩
  case round =>
    obtain ⟨k, rfl, hk, HH⟩ := hrel
    by_cases hlt : k < n
    · have hlz : (k : Int) < (n : Int) := by omega
      have k0 : (0 : Int) ≤ (k : Int) := by omega
      have r1 := HH.out
      have ky : k < ys.length := by have := HNN.out.2.1; omega
      have hyk := HC.out.2.2.1 _ (get_mem ky)
      have hl := HC.out.2.2.2.2
      have HN : Hid (∀ w', Calls Try.prog 30 #[.int .i64 (ys.getD k 0 : Int)] w' fun r w'' => r = .returned (.int .i64 (neg (ys.getD k 0) : Int)) ∧ w' = w'') := fun w' => Not_any _ w' (by omega)
      obtain ⟨_, _, e, _, _, q1⟩ := (HVX.out.2.fr r1.fr).resolve_left (by omega)
      cases e
      have cx : wr.cell? ⟨p2, o2 + k, none⟩ = some (.int .i64 (ys.getD k 0 : Int)) := q1 k ky
      have fz3 := r1.free k
      have hle : ((ys.take k).map neg).length = k := by rw [List.length_map, List.length_take]; omega
      have c3 := r1.next (i := k) (by rw [List.length_replicate]; exact hlt) (by omega)
      have F4 : Hid (Fil w (wr.setCell ⟨w.heap.size, k, none⟩ (.int .i64 (neg (ys.getD k 0) : Int))) G G L w.heap.size n ((ys.take (k + 1)).map neg) (List.replicate n 0)) := by
        have := r1.put (k := k) hle (by rw [List.length_replicate]; exact hlt) (neg (ys.getD k 0))
        rwa [take_snoc' ky, List.map_append]
      generalize ((List.replicate n 0).getD k 0 : Int) = yy at *
      clear q1 r1 hyk hl hle HH
      generalize neg (ys.getD k 0) = nk at *
      generalize ys.getD k 0 = yk at *
      go_wp2_with fail
      refine (HN.out _).mono ?_
      rintro e w' ⟨rfl, rfl⟩
      go_wp2_with fail
      go_roundw
      case rel => exact ⟨k + 1, by go_num, by omega, F4⟩
      case measure => simp [RowKit.intOf]; omega
    · obtain rfl : k = n := by omega
      have hlz : ¬ (k : Int) < (k : Int) := by omega
      have r1 := HH.out
      rw [List.take_of_length_le (by rw [HNN.out.2.1]; exact Nat.le_refl _)] at r1
      have hS := sum_any (P := P) r1.rep HC.out.1 a xs c (some ⟨w.heap.size, 0, none⟩) (ys.map neg) k k 1 (HVX.out.1.fr r1.fr) (r1.vec (by rw [List.length_map, List.length_replicate]; exact HNN.out.2.1)) HNN.out.1 (by rw [List.length_map]; exact HNN.out.2.1) HNN.out.2.2.1 HNN.out.2.2.2 HC.out.2.1 (fun e he => by obtain ⟨y, hy, rfl⟩ := List.mem_map.1 he; exact neg_lt (HC.out.2.2.1 y hy)) (by omega) (fun p => ⟨(HC.out.2.2.2.1 p).1, fun e he => by obtain ⟨y, hy, rfl⟩ := List.mem_map.1 he; exact neg_con ((HC.out.2.2.2.1 p).2 y hy), Nat.le_refl _⟩) (by have := HC.out.2.2.2.2; omega)
      rw [r1.fr.h] at hS
      have HS := Lib.hid hS
      have R1 := Lib.hid r1
      have HV : Hid (∀ m, sumF L xs (ys.map neg) 1 k m = subL (xs.map (Gr.val m L)) (ys.map (Gr.val m L))) := fun m => by
        unfold sumF subL
        rw [List.take_of_length_le (by rw [HNN.out.1]; exact Nat.le_refl _), List.take_of_length_le (by rw [List.length_map, HNN.out.2.1]; exact Nat.le_refl _), val_one, List.map_map, List.map_map]
        congr 1
        apply List.map_congr_left
        intro y _
        exact val_neg m L y
      clear r1 hS HH
      go_wp2_with fail
      refine HS.out.mono ?_
      rintro e w4 ⟨b4, G4, L4, es4, c4, rfl, hes4, r4, hO4⟩
      have HF : Hid (SumE w G P L (9 * k) k (fun m => (subL (xs.map (Gr.val m L)) (ys.map (Gr.val m L))).1) (fun m => (subL (xs.map (Gr.val m L)) (ys.map (Gr.val m L))).2) (.returned (.tuple #[.slice (some ⟨b4, 0, none⟩) k k, .int .i64 (c4 : Int)])) w4) :=
        ⟨b4, G4, L4, es4, c4, rfl, hes4, r4.pre R1.out.fr, hO4.congr fun m => by simp only [HV.out m]⟩
      clear r4 hO4 hes4
      go_wp2_with fail
      go_ret2
      exact HF.out

theorem last_mem {xs : List Nat} (h : 0 < xs.length) : xs.getLastD 0 ∈ xs := by
  rw [List.getLastD_eq_getLast?, List.getLast?_eq_some_getLast (List.length_pos_iff.1 h)]
  exact List.getLast_mem _
theorem last_val {xs : List Nat} (h : 0 < xs.length) (m : Nat → Bool) (L : List Nd) : sgn (xs.map (Gr.val m L)) = Gr.val m L (xs.getLastD 0) := by
  unfold sgn
  rw [List.getLastD_eq_getLast?, List.getLastD_eq_getLast?, List.getLast?_map, List.getLast?_eq_some_getLast (List.length_pos_iff.1 h)]
  rfl

set_option maxRecDepth 100000 in
set_option maxHeartbeats 1000000 in
theorem magnitude_any {P : Prop} {w : World} {G : Loc} {L : List Nd} (h : Rep w G L) (hW : Wf L) (a : Option Addr) (xs : List Nat) (ca n : Nat) (hx : Vec w G a xs) (hnx : xs.length = n) (hn1 : 1 ≤ n) (hn : n ≤ 16) (he : ∀ e ∈ xs, e < 2 * (L.length + 1)) (hP : P → ∀ e ∈ xs, e ≤ 1) (hl : L.length < 110000) :
    Calls Try.prog 68 #[.pointer (some ⟨G.h, 0, none⟩), .slice a n ca] w (RowE w G P L (12 * n) n (fun m => magL (xs.map (Gr.val m L)))) := by
  have hp : 0 < xs.length := by omega
  have H1 := sign_any a xs ca hx hp (by omega)
  rw [hnx] at H1
  have hm := last_mem hp
  have H2 := turn_any (P := P) h hW (xs.getLastD 0) a xs ca n hx hnx hn1 hn (he _ hm) he (fun p => ⟨hP p _ hm, hP p⟩) hl
  have HE : Hid (∀ m, turnL (Gr.val m L (xs.getLastD 0)) (xs.map (Gr.val m L)) = magL (xs.map (Gr.val m L))) := fun m => by unfold magL; rw [last_val hp]
  have HH1 := Lib.hid H1
  have HH2 := Lib.hid H2
  clear H1 H2 h hW hx he hP hm hp hnx hl
  generalize xs.getLastD 0 = c at *
  go_enter Try.func68, Try.ntmps68
  go_wp2_with fail
  refine HH1.out.mono ?_
  rintro e w' ⟨rfl, rfl⟩
  go_wp2_with fail
  refine HH2.out.mono ?_
  rintro e w2 ⟨b, G2, L2, es, rfl, q1, q2, q3⟩
  have HF : Hid (RowE w G P L (12 * n) n (fun m => magL (xs.map (Gr.val m L))) (.returned (.slice (some ⟨b, 0, none⟩) n n)) w2) := ⟨b, G2, L2, es, rfl, q1, q2, q3.congr HE.out⟩
  clear q1 q2 q3
  go_wp2_with fail
  go_ret
  exact HF.out

theorem edgesN_all {L : List Nd} {zs : List Nat} (h : ∀ e ∈ zs, e < 2 * (L.length + 1)) : edgesN L (fun j => ((zs.getD j 0 : Nat) : Int)) zs.length = zs := by
  unfold edgesN
  apply List.ext_getElem
  · simp
  · intro i h1 h2
    simp only [List.getElem_map, List.getElem_range]
    rw [List.getD_eq_getElem?_getD, List.getElem?_eq_getElem h2]
    exact own_nat (h _ (List.getElem_mem h2))

/-- Any, of a list that lies where the graph doesn't write. -/
theorem Any_vec {P : Prop} {w : World} {G : Loc} {L : List Nd} (h : Rep w G L) (hW : Wf L) (a : Option Addr) (xs : List Nat) (ca n : Nat) (hx : Vec w G a xs) (hnx : xs.length = n) (hn : n ≤ 16) (he : ∀ e ∈ xs, e < 2 * (L.length + 1)) (hP : P → ∀ e ∈ xs, e ≤ 1) (hl : L.length < 110000) :
    Calls Try.prog 29 #[.pointer (some ⟨G.h, 0, none⟩), .slice a n ca] w fun e w' => ∃ r : Nat × List Nd, OpE w G r e w' ∧ Ac P L n r (fun m => (xs.map (Gr.val m L)).any id) := by
  have H := Any_any h hW a xs.length ca _ hx.arg (by omega) (fun j hj => by have := he _ (get_mem hj); omega) (by omega)
  rw [edgesN_all he, hnx] at H
  refine H.mono fun e w' hop => ⟨_, hop, ?_⟩
  have := any_ac (P := P) hW he hP
  rw [hnx] at this
  exact this.congr fun m => by rw [List.any_map]; rfl

set_option maxRecDepth 100000 in
set_option maxHeartbeats 1000000 in
theorem Some_any {P : Prop} {w : World} {G : Loc} {L : List Nd} (h : Rep w G L) (hW : Wf L) (a : Option Addr) (xs : List Nat) (ca : Nat) (hx : Vec w G a xs) (hn : xs.length ≤ 1000) (he : ∀ e ∈ xs, e < 2 * (L.length + 1)) (hP : P → ∀ e ∈ xs, e ≤ 1) (hl : L.length < 110000) :
    Calls Try.prog 40 #[.pointer (some ⟨G.h, 0, none⟩), .slice a xs.length ca] w (EdgE w G P L 16 (fun m => ((vecE xs).map (Gr.val m L)).any id)) := by
  have H1 := Lib.hid (owned_any h a xs ca hx hn he (by omega))
  have HC : Hid (Wf L ∧ (∀ e ∈ vecE xs, e < 2 * (L.length + 1)) ∧ (P → ∀ e ∈ vecE xs, e ≤ 1) ∧ L.length < 110000) := ⟨hW, vecE_mem he (by omega), fun p => vecE_mem (hP p) (by omega), hl⟩
  have hp2 := vecE_le xs
  clear h hW hx hn he hP hl
  generalize vecE xs = fs at *
  generalize xs.length = l at *
  obtain ⟨n, hn'⟩ : ∃ n, fs.length = n := ⟨_, rfl⟩
  have HN := Lib.hid hn'
  rw [hn'] at hp2 H1
  clear hn'
  go_enter Try.func40, Try.ntmps40
  go_wp2_with fail
  refine H1.out.mono ?_
  rintro e w1 ⟨b1, c1, G1, rfl, _, f1⟩
  have hA := Any_vec (P := P) f1.rep HC.out.1 (some ⟨b1, 0, none⟩) fs c1 n (f1.vec rfl) HN.out hp2 HC.out.2.1 HC.out.2.2.1 HC.out.2.2.2
  rw [f1.fr.h] at hA
  have HA := Lib.hid hA
  have F1 := Lib.hid f1
  clear hA f1 H1
  go_wp2_with fail
  refine HA.out.mono ?_
  rintro e w2 ⟨r, ⟨rfl, G2, g1, g2⟩, hac⟩
  have HF : Hid (EdgE w G P L 16 (fun m => (fs.map (Gr.val m L)).any id) (.returned (.int .i64 (r.1 : Int))) w2) := ⟨G2, r.2, r.1, rfl, g1, F1.out.fr.trans g2, hac.out.more (by omega)⟩
  clear hac g1 g2
  go_wp2_with fail
  go_ret
  exact HF.out

theorem wideL_mem {v : List Nat} {w : Nat} {e : Nat} (h : e ∈ wideL 0 v w) : e ∈ v ∨ e = 0 := by
  unfold wideL at h
  obtain ⟨i, _, rfl⟩ := List.mem_map.1 h
  by_cases q : min i (v.length - 1) < v.length
  · exact Or.inl (get_mem q)
  · right; rw [List.getD_eq_getElem?_getD, List.getElem?_eq_none (by omega)]; rfl
/-- A list's vector, as wide as the wider one; what it is worth. -/
def wdE (xs ys zs : List Nat) : List Nat := wideL 0 (vecE zs) (wid xs ys)
theorem wdE_len (xs ys zs : List Nat) : (wdE xs ys zs).length = wid xs ys := wideL_len _ _ _
theorem wdE_all {p : Nat → Prop} {xs ys zs : List Nat} (h : ∀ e ∈ zs, p e) (h0 : p 0) : ∀ e ∈ wdE xs ys zs, p e := fun e he => (wideL_mem he).elim (fun q => vecE_mem h h0 e q) (fun q => q ▸ h0)

/-- What a call of two lists is asked with. -/
structure Two (w : World) (G : Loc) (P : Prop) (L : List Nd) (a : Option Addr) (xs : List Nat) (a2 : Option Addr) (ys : List Nat) : Prop where
  rep : Rep w G L
  wf : Wf L
  hx : Vec w G a xs
  hy : Vec w G a2 ys
  nx : xs.length ≤ 1000
  ny : ys.length ≤ 1000
  ex : ∀ e ∈ xs, e < 2 * (L.length + 1)
  ey : ∀ e ∈ ys, e < 2 * (L.length + 1)
  con : P → (∀ e ∈ xs, e ≤ 1) ∧ (∀ e ∈ ys, e ≤ 1)

theorem Two.pair {P : Prop} {w : World} {G : Loc} {L : List Nd} {a a2 : Option Addr} {xs ys : List Nat} (t : Two w G P L a xs a2 ys) (c c2 : Nat) (hl : L.length < 150000) :
    Calls Try.prog 60 #[.pointer (some ⟨G.h, 0, none⟩), .slice a xs.length c, .slice a2 ys.length c2] w (PairE w G L (wid xs ys) (wdE xs ys xs) (wdE xs ys ys)) := pair_any t.rep a xs c a2 ys c2 t.hx t.hy t.nx t.ny t.ex t.ey hl

set_option maxRecDepth 100000 in
set_option maxHeartbeats 1000000 in
theorem Add_any {P : Prop} {w : World} {G : Loc} {L : List Nd} (a : Option Addr) (xs : List Nat) (c : Nat) (a2 : Option Addr) (ys : List Nat) (c2 : Nat) (t : Two w G P L a xs a2 ys) (hl : L.length < 110000) :
    Calls Try.prog 45 #[.pointer (some ⟨G.h, 0, none⟩), .slice a xs.length c, .slice a2 ys.length c2] w (RowE w G P L (9 * wid xs ys) (wid xs ys) (fun m => (addL ((wdE xs ys xs).map (Gr.val m L)) ((wdE xs ys ys).map (Gr.val m L)) false).1)) := by
  have H1 := Lib.hid (t.pair c c2 (by omega))
  have HM := Lib.hid (And.intro (wid_pos xs ys) (wid_le xs ys))
  have HA := Lib.hid (wdE_all (xs := xs) (ys := ys) t.ex (by omega))
  have HB := Lib.hid (wdE_all (xs := xs) (ys := ys) t.ey (by omega))
  have HP : Hid (P → (∀ e ∈ wdE xs ys xs, e ≤ 1) ∧ (∀ e ∈ wdE xs ys ys, e ≤ 1)) := fun p => ⟨wdE_all (p := fun e => e ≤ 1) (t.con p).1 (by omega), wdE_all (p := fun e => e ≤ 1) (t.con p).2 (by omega)⟩
  have HW := Lib.hid (And.intro t.wf hl)
  have HLA := Lib.hid (wdE_len xs ys xs)
  have HLB := Lib.hid (wdE_len xs ys ys)
  clear t hl
  generalize wdE xs ys xs = A at *
  generalize wdE xs ys ys = B at *
  generalize wid xs ys = n at *
  generalize xs.length = l1 at *
  generalize ys.length = l2 at *
  go_enter Try.func45, Try.ntmps45
  go_wp2_with fail
  refine H1.out.mono ?_
  rintro e w1 ⟨b1, b2, G1, rfl, _, f1, f2⟩
  have hS := sum_any (P := P) f1.rep HW.out.1 (some ⟨b1, 0, none⟩) A n (some ⟨b2, 0, none⟩) B n n 0 (f1.vec (by rw [HLA.out, List.length_replicate])) (f2.vec (by rw [HLB.out, List.length_replicate])) HLA.out HLB.out HM.out.1 HM.out.2 HA.out HB.out (by omega) (fun p => ⟨(HP.out p).1, (HP.out p).2, by omega⟩) (by have := HW.out.2; omega)
  rw [f1.fr.h] at hS
  have HS := Lib.hid hS
  have F1 := Lib.hid f1
  have HV : Hid (∀ m, sumF L A B 0 n m = addL (A.map (Gr.val m L)) (B.map (Gr.val m L)) false) := fun m => by
    unfold sumF
    rw [List.take_of_length_le (by rw [HLA.out]; exact Nat.le_refl _), List.take_of_length_le (by rw [HLB.out]; exact Nat.le_refl _), val_zero]
  clear hS f1 f2 H1
  go_wp2_with fail
  refine HS.out.mono ?_
  rintro e w4 ⟨b4, G4, L4, es4, c4, rfl, hes4, r4, hO4⟩
  have HF : Hid (RowE w G P L (9 * n) n (fun m => (addL (A.map (Gr.val m L)) (B.map (Gr.val m L)) false).1) (.returned (.slice (some ⟨b4, 0, none⟩) n n)) w4) :=
    ⟨b4, G4, L4, es4, rfl, hes4, r4.pre F1.out.fr, (hO4.left (fun _ => rfl)).congr fun m => by simp only [HV.out m]⟩
  clear r4 hO4 hes4
  go_wp2_with fail
  go_ret
  exact HF.out

set_option maxRecDepth 100000 in
set_option maxHeartbeats 1000000 in
theorem Sub_any {P : Prop} {w : World} {G : Loc} {L : List Nd} (a : Option Addr) (xs : List Nat) (c : Nat) (a2 : Option Addr) (ys : List Nat) (c2 : Nat) (t : Two w G P L a xs a2 ys) (hl : L.length < 110000) :
    Calls Try.prog 46 #[.pointer (some ⟨G.h, 0, none⟩), .slice a xs.length c, .slice a2 ys.length c2] w (RowE w G P L (9 * wid xs ys) (wid xs ys) (fun m => (subL ((wdE xs ys xs).map (Gr.val m L)) ((wdE xs ys ys).map (Gr.val m L))).1)) := by
  have H1 := Lib.hid (t.pair c c2 (by omega))
  have HM := Lib.hid (And.intro (wid_pos xs ys) (wid_le xs ys))
  have HA := Lib.hid (wdE_all (xs := xs) (ys := ys) t.ex (by omega))
  have HB := Lib.hid (wdE_all (xs := xs) (ys := ys) t.ey (by omega))
  have HP : Hid (P → (∀ e ∈ wdE xs ys xs, e ≤ 1) ∧ (∀ e ∈ wdE xs ys ys, e ≤ 1)) := fun p => ⟨wdE_all (p := fun e => e ≤ 1) (t.con p).1 (by omega), wdE_all (p := fun e => e ≤ 1) (t.con p).2 (by omega)⟩
  have HW := Lib.hid (And.intro t.wf hl)
  have HLA := Lib.hid (wdE_len xs ys xs)
  have HLB := Lib.hid (wdE_len xs ys ys)
  clear t hl
  generalize wdE xs ys xs = A at *
  generalize wdE xs ys ys = B at *
  generalize wid xs ys = n at *
  generalize xs.length = l1 at *
  generalize ys.length = l2 at *
  go_enter Try.func46, Try.ntmps46
  go_wp2_with fail
  refine H1.out.mono ?_
  rintro e w1 ⟨b1, b2, G1, rfl, _, f1, f2⟩
  have hS := diff_any (P := P) f1.rep HW.out.1 (some ⟨b1, 0, none⟩) A n (some ⟨b2, 0, none⟩) B n n (f1.vec (by rw [HLA.out, List.length_replicate])) (f2.vec (by rw [HLB.out, List.length_replicate])) HLA.out HLB.out HM.out.1 HM.out.2 HA.out HB.out HP.out HW.out.2
  rw [f1.fr.h] at hS
  have HS := Lib.hid hS
  have F1 := Lib.hid f1
  clear hS f1 f2 H1
  go_wp2_with fail
  refine HS.out.mono ?_
  rintro e w4 ⟨b4, G4, L4, es4, c4, rfl, hes4, r4, hO4⟩
  have HF : Hid (RowE w G P L (9 * n) n (fun m => (subL (A.map (Gr.val m L)) (B.map (Gr.val m L))).1) (.returned (.slice (some ⟨b4, 0, none⟩) n n)) w4) :=
    ⟨b4, G4, L4, es4, rfl, hes4, r4.pre F1.out.fr, hO4.left (fun _ => rfl)⟩
  clear r4 hO4 hes4
  go_wp2_with fail
  go_ret
  exact HF.out
end Go.Proofs.Ytnkcdgpaphphaaa.Gr
