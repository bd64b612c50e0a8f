/- Contract of wake. -/
import Derived.Test.YthpamogomfleoaaDoorRcStep
import Derived.Deep.DeepCutAuto
import Derived.Deep.RegionWith
namespace Go.Proofs.YthpamogomfleoaaDoor.Rc
open Go Go.RowKit Go.Lib

/-- Where wake stands: k clauses looked at; the list's array holds those kept, what was there, those left. -/
structure WkMem (w0 wr : World) (Y0 : Lay) (σ0 : St) (n : Int) (g c : Nat) (k : Nat) (σ : St) (K R : List Nat) (Y : Lay) : Prop where
  way : WkTo σ0 n σ K R
  mem : Mem wr Y σ (some n)
  nxt : Nxt sAny w0 Y0 wr Y
  arr : ∃ X : List Nat, OwnR wr Y.ρ (.wl n) 3 1 (.slice (some ⟨g, 0, none⟩) (σ0.wat n).length c) (σ0.wat n).length (X.map encN) ∧ X.length = (σ0.wat n).length ∧ X.take K.length = K ∧ X.drop k = R
  row : Y.ρ g = .wl n
  count : k + R.length = (σ0.wat n).length ∧ K.length ≤ k
  same : σ.V = σ0.V ∧ σ.N = σ0.N ∧ σ.cps = σ0.cps

theorem WkMem.frm {w0 wr W : World} {Y0 : Lay} {σ0 : St} {n : Int} {g c k : Nat} {σ : St} {K R : List Nat} {Y : Lay} (h : WkMem w0 wr Y0 σ0 n g c k σ K R Y) (F : Frm Y.ρ (fun _ => false) wr W) : WkMem w0 W Y0 σ0 n g c k σ K R Y := by
  obtain ⟨X, x1, x2⟩ := h.arr
  exact { h with mem := h.mem.frm (F.mono (fun _ _ => rfl)), nxt := h.nxt.trans (Nxt.same (F.mono (fun _ _ => rfl))), arr := ⟨X, x1.keep F rfl (fun _ _ => rfl), x2⟩ }

/-- The list under way is no part of what the memory says. -/
def sWx (n : Int) : Role → Bool | .wl k => k == n | _ => false
theorem Mem.wlOut {w w' : World} {Y : Lay} {σ : St} {n : Int} (h : Mem w Y σ (some n)) (F : Frm Y.ρ (sWx n) w w') : Mem w' Y σ (some n) := by
  intro f; have K := (h f).keep F (fun _ _ => rfl) (h.dom F.size); cases f
  case wls => exact fun l h0 h1 => (h .wls l h0 h1).keep F (by simp [sWx]; simpa using h1) (fun _ _ => rfl)
  all_goals exact K (by first | exact True.intro | rfl | exact fun _ => rfl)
/-- One more is kept: it is laid into its place. -/
theorem arr_put {w : World} {ρ : Nat → Role} {n : Int} {g N c k kl : Nat} {X K R : List Nat} {q : Nat} (h : OwnR w ρ (.wl n) 3 1 (.slice (some ⟨g, 0, none⟩) N c) N (X.map encN)) (hN : X.length = N) (hK : X.take K.length = K) (hR : X.drop k = q :: R) (hl : K.length = kl) (hk : kl ≤ k) (hlt : k < N) (p : Nat) :
    ∃ X' : List Nat, OwnR (w.setCell ⟨g, kl, none⟩ (.int .i64 (p : Int))) ρ (.wl n) 3 1 (.slice (some ⟨g, 0, none⟩) N c) N (X'.map encN) ∧ X'.length = N ∧ X'.take (K ++ [p]).length = K ++ [p] ∧ X'.drop (k + 1) = R := by
  subst hl
  refine ⟨X.set K.length p, ?_, by rw [List.length_set]; exact hN, ?_, ?_⟩
  · have := h.setAt K.length (by omega) (.int .i64 (p : Int))
    rw [List.map_set]
    exact this
  · have hlt2 : K.length < (X.set K.length p).length := by rw [List.length_set]; omega
    rw [List.length_append, List.length_singleton, List.take_succ_eq_append_getElem hlt2, List.getElem_set_self, List.take_set_of_le (Nat.le_refl _), hK]
  · rw [List.drop_set_of_lt (by omega), ← List.drop_drop, hR]
    rfl
theorem put_all {V : World} {Y : Lay} {σ : St} {n : Int} {g N c k kl : Nat} {X K R : List Nat} {q : Nat} (hm : Mem V Y σ (some n)) (h : OwnR V Y.ρ (.wl n) 3 1 (.slice (some ⟨g, 0, none⟩) N c) N (X.map encN)) (row : Y.ρ g = .wl n) (hN : X.length = N) (hK : X.take K.length = K) (hR : X.drop k = q :: R) (hl : K.length = kl) (hk : kl ≤ k) (hlt : k < N) (p : Nat) :
    Mem ((V.alloc (.cells #[.int .i64 (p : Int)] 3)).setCell ⟨g, kl, none⟩ (.int .i64 (p : Int))) Y σ (some n) ∧
    Frm Y.ρ (sWx n) V ((V.alloc (.cells #[.int .i64 (p : Int)] 3)).setCell ⟨g, kl, none⟩ (.int .i64 (p : Int))) ∧
    ∃ X' : List Nat, OwnR ((V.alloc (.cells #[.int .i64 (p : Int)] 3)).setCell ⟨g, kl, none⟩ (.int .i64 (p : Int))) Y.ρ (.wl n) 3 1 (.slice (some ⟨g, 0, none⟩) N c) N (X'.map encN) ∧ X'.length = N ∧ X'.take (K ++ [p]).length = K ++ [p] ∧ X'.drop (k + 1) = R := by
  have hF : Frm Y.ρ (sWx n) V ((V.alloc (.cells #[.int .i64 (p : Int)] 3)).setCell ⟨g, kl, none⟩ (.int .i64 (p : Int))) :=
    ((Frm.refl _ _ _).alloc _).set (fun _ => by rw [row]; simp [sWx]) _
  exact ⟨hm.wlOut hF, hF, arr_put (h.keep (S := fun _ => false) ((Frm.refl _ _ _).alloc _) rfl (fun _ _ => rfl)) hN hK hR hl hk hlt p⟩
/-- One more looked at. -/
theorem WkMem.next {w0 W W' : World} {Y0 : Lay} {σ0 : St} {n : Int} {g c k p : Nat} {σ1 : St} {K R : List Nat} {Y : Lay} (h : WkMem w0 W Y0 σ0 n g c k σ1 K (p :: R) Y) {Y' : Lay} {σ2 : St} {K' : List Nat}
    (to' : WkTo σ0 n σ2 K' R) (mem' : Mem W' Y' σ2 (some n)) (nx : Nxt sAny W Y W' Y')
    (ar : ∃ X : List Nat, OwnR W' Y'.ρ (.wl n) 3 1 (.slice (some ⟨g, 0, none⟩) (σ0.wat n).length c) (σ0.wat n).length (X.map encN) ∧ X.length = (σ0.wat n).length ∧ X.take K'.length = K' ∧ X.drop (k + 1) = R)
    (hK : K'.length ≤ K.length + 1) (hs : σ2.V = σ1.V ∧ σ2.N = σ1.N ∧ σ2.cps = σ1.cps) :
    WkMem w0 W' Y0 σ0 n g c (k + 1) σ2 K' R Y' := by
  have hc := h.count
  simp only [List.length_cons] at hc
  refine ⟨to', mem', h.nxt.trans nx, ar, ?_, ⟨by omega, by omega⟩, hs.1.trans h.same.1, hs.2.1.trans h.same.2.1, hs.2.2.trans h.same.2.2⟩
  obtain ⟨X, x1, _⟩ := h.arr
  rw [nx.ext g (x1.1.lt g rfl).2]; exact h.row
theorem WkMem.goOn {w0 W W' : World} {Y0 : Lay} {σ0 : St} {n : Int} {g c k p : Nat} {σ1 σ2 : St} {K R : List Nat} {Y Y' : Lay} (h : WkMem w0 W Y0 σ0 n g c k σ1 K (p :: R) Y)
    (way' : WkTo σ0 n σ2 K R) (mem' : Mem W' Y' σ2 (some n)) (nx : Nxt (fun q => match q with | .wl j => j != n | .old => false | _ => true) W Y W' Y') (hs : σ2.V = σ1.V ∧ σ2.N = σ1.N ∧ σ2.cps = σ1.cps) :
    WkMem w0 W' Y0 σ0 n g c (k + 1) σ2 K R Y' := by
  obtain ⟨X, x1, x2, x3, x4⟩ := h.arr
  exact h.next way' mem' (nx.mono (sAny_le rfl)) ⟨X, x1.keep nx.frm (by simp) nx.ext, x2, x3, by rw [← List.drop_drop, x4]; rfl⟩ (by omega) hs

/-- 'append(xs, x)' within the capacity: one cell is set. -/
theorem wpList_append_one {P : Program} (w : World) {ops : Array Oper} {rest : List Oper} {o : Oper} {a : Act} {Q : Exit → Act → World → Prop}
    (hg : o.guard = none) (s x : Operand) (t : TypeId) (hop : o.op = Op.call { callee := Callee.builtin Builtin.append, args := #[s, x], argTypes := #[t, t] })
    (e : TypeId) (i : TypeInfo) (h1 : P.underlying t = some (.slice e)) (h2 : P.info? e = some i) (h4 : i.size = 1)
    (b n cap : Nat) (hs : a.eval s = .slice (some ⟨b, 0, none⟩) n cap) (ad : Addr) (c : Nat) (u : Value) (hx : a.eval x = .slice (some ad) 1 c) (hc : w.cell? ad = some u) (h1c : u.oneCell' = true)
    (hroom : n + 1 ≤ cap) (hspare : (w.cell? ⟨b, n, none⟩).isSome = true) (hfree : w.frozen? ⟨b, n, none⟩ = false)
    (hK : wpList P ops Q rest (a.put o.dst (.slice (some ⟨b, 0, none⟩) (n + 1) cap)) (w.setCell ⟨b, n, none⟩ u)) :
    wpList P ops Q (o :: rest) a w := by
  refine wpList_plain hg fun K hK' => ?_
  have hrun := run_append_room_cells (P := P) w t o.type e i h1 h2 b 0 n cap ad 1 c [u] (by rw [h4]; rfl)
    (fun j v hj => by
      match j, hj with
      | 0, hj =>
        obtain rfl : u = v := by simpa using hj
        obtain ⟨x, y, z⟩ := ad
        have hz : z = none := by simpa using World.cell?_spot hc
        subst hz
        simpa [Addr.add] using hc)
    (fun v hv => by obtain rfl : v = u := by simpa using hv
                    exact h1c) hroom
    (fun j hj => by obtain rfl : j = 0 := by simpa using hj
                    rw [h4]; simpa using hspare)
    (fun j hj => by obtain rfl : j = 0 := by simpa using hj
                    rw [h4]; simpa using hfree)
  rw [h4] at hrun
  simp only [Nat.zero_add, Nat.mul_one, World.setCells] at hrun
  unfold Oper.wp
  simp [execOp, hop, resolve, invoke, builtin, hs, hx, hrun, Result.andThen]
  exact hK' _ _ hK

theorem wp_append_fits {P : Program} (w : World) {o : Oper} {a : Act} {K : Act → World → Prop} {Q : Exit → Act → World → Prop}
    (s x : Operand) (t : TypeId) (hop : o.op = Op.call { callee := Callee.builtin Builtin.append, args := #[s, x], argTypes := #[t, t] })
    (base : Nat) (e : TypeId) (i : TypeInfo) (size : Nat) (h1 : P.underlying t = some (.slice e)) (h2 : P.info? e = some i) (h4 : i.size = size)
    (g k cap : Nat) (xs : List Value) (hs : a.eval s = .slice (some ⟨g, 0, none⟩) k cap) (hown : w.ownsRow base e size (.slice (some ⟨g, 0, none⟩) k cap) k xs) (ad : Addr) (m c : Nat) (news : List Value) (hx : a.eval x = .slice (some ad) m c) (hn : news.length = m * size)
    (hc : ∀ j u, news[j]? = some u → w.cell? (ad.add j) = some u) (h1c : ∀ u ∈ news, u.oneCell' = true) (b1 : k + m ≤ cap)
    (hK : ∀ w', w'.ownsRow base e size (.slice (some ⟨g, 0, none⟩) (k + m) cap) (k + m) (xs ++ news) → w.grownBy w' (some g) → K (a.put o.dst (.slice (some ⟨g, 0, none⟩) (k + m) cap)) w') :
    Oper.wp P o a w K Q := by
  obtain ⟨w', hrun, r1, r2⟩ := run_append_fits (P := P) w base t o.type e i size h1 h2 h4 g k cap xs hown ad m c news hn hc h1c b1
  unfold Oper.wp execOp
  simp only [hop, resolve, invoke, builtin, Sem.run_bind, Sem.run_pure, Result.andThen_ok, List.map_toArray, List.map_cons, List.map_nil, hs, hx, hrun]
  exact hK w' r1 r2
theorem wp_append_fits2 {P : Program} (w : World) {o : Oper} {a : Act} {K : Act → World → Prop} {Q : Exit → Act → World → Prop}
    (s x : Operand) (t : TypeId) (hop : o.op = Op.call { callee := Callee.builtin Builtin.append, args := #[s, x], argTypes := #[t, t] })
    (base : Nat) (e : TypeId) (i : TypeInfo) (size : Nat) (h1 : P.underlying t = some (.slice e)) (h2 : P.info? e = some i) (h4 : i.size = size)
    (g k cap : Nat) (xs : List Value) (hs : a.eval s = .slice (some ⟨g, 0, none⟩) k cap) (hown : w.ownsRow base e size (.slice (some ⟨g, 0, none⟩) k cap) k xs) (ao : Option Addr) (ad : Addr) (m c : Nat) (news : List Value) (hx : a.eval x = .slice ao m c) (hao : ao = some ad) (hn : news.length = m * size)
    (hc : ∀ j u, news[j]? = some u → w.cell? (ad.add j) = some u) (h1c : ∀ u ∈ news, u.oneCell' = true) (b1 : k + m ≤ cap)
    (hK : ∀ w', w'.ownsRow base e size (.slice (some ⟨g, 0, none⟩) (k + m) cap) (k + m) (xs ++ news) → w.grownBy w' (some g) → K (a.put o.dst (.slice (some ⟨g, 0, none⟩) (k + m) cap)) w') :
    Oper.wp P o a w K Q := by
  subst hao
  exact wp_append_fits w s x t hop base e i size h1 h2 h4 g k cap xs hs hown ad m c news hx hn hc h1c b1 hK
theorem row_drop {w : World} {ρ : Nat → Role} {r : Role} {ty : TypeId} {g n c k : Nat} {X : List Nat} (h : OwnR w ρ r ty 1 (.slice (some ⟨g, 0, none⟩) n c) n (X.map encN)) (hX : X.length = n) (hk : k ≤ n) (hc : n ≤ c) :
    ∀ j u, ((X.drop k).map encN)[j]? = some u → w.cell? ((if c = k then (⟨g, 0, none⟩ : Addr) else ⟨g, k, none⟩).add j) = some u := by
  intro j u hj
  have hlt : j < ((X.drop k).map encN).length := (List.getElem?_eq_some_iff.1 hj).1
  rw [List.length_map, List.length_drop] at hlt
  rw [if_neg (by omega)]
  have hadd : (⟨g, k, none⟩ : Addr).add j = ⟨g, k + j, none⟩ := by unfold Addr.add; split <;> simp_all
  rw [hadd]
  refine h.cellAt ?_
  rw [List.getElem?_map] at hj ⊢
  rw [List.getElem?_drop] at hj
  exact hj

/-- What wake answers. -/
def WaE (w : World) (Y : Lay) (σ : St) (n : Int) (e : Ending) (w' : World) : Prop :=
  ∃ σ' c Y', e = .returned (.int .i64 c) ∧ WkEnd σ n σ' c ∧ Mem w' Y' σ' none ∧ Nxt sAny w Y w' Y'

set_option maxRecDepth 100000 in
set_option maxHeartbeats 4000000 in
theorem wake_some {w : World} {Y : Lay} {σ : St} {n : Int} {b : Option Nat} {so : List Int} (h : Mem w Y σ none) (h0 : Run σ n [] (σ.wat n) b so) (hN : σ.N ≤ 10000000) (hpos : 0 < (σ.wat n).length) :
    Calls Tryd.prog 71 #[.pointer (some ⟨Y.s, 0, none⟩), .int .i64 n] w (WaE w Y σ n) := by
  have hV := h.nle
  have hl := h0.lt
  have hwl : (σ.wat n).length ≤ σ.N := by
    have hw := h0.inv.w.len hl.in'
    rw [updI_same] at hw; simpa using hw
  have c8 := h.cell 8 (by omega)
  obtain ⟨wB, e8, r8, p8⟩ := h .wat
  obtain ⟨g, c, e1, hc1, hc2, _, pg⟩ := own_form1 (h .wls n hl.in' (by simp)) hpos
  have d := r8.cell (i := ix σ.V n) (ix_lt hl.in')
  rw [e8] at c8
  rw [e1] at d
  have lb : (ix σ.V n : Int) < 2 * (σ.V : Int) + 1 := by have := ix_lt hl.in'; omega
  have l0 : (0 : Int) ≤ (ix σ.V n : Int) := by omega
  have START : Hid (∃ σ' K R Y', WkMem w w Y σ n g c 0 σ' K R Y' ∧ K = []) := by
    have ho := h .wls n hl.in' (by simp)
    rw [e1] at ho
    exact ⟨σ, [], σ.wat n, Y, ⟨.start, h.hold _, Nxt.refl _ _ _, ⟨σ.wat n, ho, rfl, rfl, rfl⟩, pg, ⟨by omega, Nat.le_refl _⟩, rfl, rfl, rfl⟩, rfl⟩
  have HF := Lib.hid (And.intro e8 p8)
  have HL := Lib.hid hl
  have HR0 := Lib.hid h0
  have HI : Hid (∀ q, Calls Tryd.prog 68 #[.pointer (some ⟨Y.s, 0, none⟩), .int .i64 n] (w.drewN q) fun e w' => e = .returned (.int .i64 (ix σ.V n : Int)) ∧ w.drewN q = w') := fun q => index_cell h.vars h.nle hl.in'
  obtain ⟨N, hNN⟩ : ∃ N, N = (σ.wat n).length := ⟨_, rfl⟩
  rw [← hNN] at d hc1
  have hN2 : N ≤ 10000000 := by omega
  have HN := Lib.hid hNN
  clear h e8 r8 e1 hl hpos pg hNN h0 hwl
  go_enter Tryd.func71, Tryd.ntmps71
  go_wp2_with fail
  go_quiet ((go_at_call 68; exact Calls.quiet_of ((HI.out _).mono fun _ _ ⟨p, q⟩ => ⟨p, 0, by rw [← q]; rfl⟩)))
  go_wp2_with fail
  go_loopw [6, 26] (fun kv iv wr => ∃ (k : Nat) (kl : Nat), iv = .int .i64 (k : Int) ∧ kv = .slice (some ⟨g, 0, none⟩) kl c ∧ k ≤ N ∧ kl ≤ k ∧ Hid (∃ σ' K R Y', WkMem w wr Y σ n g c k σ' K R Y' ∧ K.length = kl)) (fun _ iv _ => N - (intOf iv).toNat)
  case atStart =>
    obtain ⟨σ', K, R, Y', z1, z2⟩ := START.out
    exact ⟨0, 0, rfl, rfl, Nat.zero_le _, Nat.le_refl _, σ', K, R, Y', z1.frm ((Frm.refl _ _ _).drewN _), by rw [z2]; rfl⟩
  case round =>
    obtain ⟨k, kl, rfl, rfl, hk, hkl, HH⟩ := hrel
    obtain ⟨σ1, K, R, Y1, W1, hKl⟩ := HH.out
    by_cases hlt : k < N
    · have hlz : (k : Int) < (N : Int) := by omega
      have hk0 : (0 : Int) ≤ (k : Int) := by omega
      obtain ⟨X, hX1, hX2, hX3, hX4⟩ := W1.arr
      rw [← HN.out] at hX1 hX2
      obtain ⟨p, hp⟩ : ∃ p, p = X[k]! := ⟨_, rfl⟩
      have hkX : k < X.length := by omega
      have hR : R = p :: X.drop (k + 1) := by
        rw [← hX4, List.drop_eq_getElem_cons hkX, ← getElem!_pos X k hkX, hp]
      have d0 := hX1.cellM hkX
      rw [← hp] at d0
      unfold encN at d0
      have run1 := W1.way.run HR0.out
      rw [hR] at run1 W1
      have hpN := run1.cur.1
      have hl2 := run1.cur.2.1
      obtain ⟨rg, rc, er, hr1, hr2, hr3, hr4, cr0, cr1, _⟩ := W1.mem.recAt hpN
      obtain ⟨lg, lc, el, hl1, hl4, hl5, hl6⟩ := W1.mem.litAt hpN (by omega)
      have c5 := W1.mem.cell 5 (by omega)
      have HS1 := Lib.hid W1.nxt.s
      rw [HS1.out, er] at c5
      rw [el] at cr0
      unfold encN at cr1
      have pz : (p : Int) < (σ1.N : Int) := by omega
      have p0 : (0 : Int) ≤ (p : Int) := by omega
      have HX := Lib.hid (And.intro hX1 (And.intro hX2 (And.intro hX3 (And.intro hX4 hR))))
      have HW := Lib.hid W1
      have HRN := Lib.hid run1
      have HK := Lib.hid hKl
      obtain ⟨len, hle⟩ : ∃ len, len = (σ1.lits p).length := ⟨_, rfl⟩
      rw [← hle] at cr0 hl2
      have HLE := Lib.hid hle
      have EL := Lib.hid (And.intro el (And.intro hl1 hl4))
      have HLC := Lib.hid (And.intro hl5 hl6)
      clear hX1 hX2 hX3 hX4 hp hR hkX W1 hKl HH run1 er hr3 hr4 el hl1 hl4 hl5 hl6 hle
      by_cases hd : σ1.cps p = 0
      · rw [hd] at cr1
        have HD := Lib.hid hd
        clear hd
        go_wp2_with fail
        go_roundw
        case rel =>
          have hW := HW.out.frm ((Frm.refl Y1.ρ (fun _ => false) wr).alloc (.cells #[.slice (some ⟨lg, 0, none⟩) len lc, .int .i64 ((0 : Nat) : Int)] 72))
          exact ⟨k + 1, kl, by go_num, rfl, by omega, by omega, σ1, K, X.drop (k + 1), Y1, hW.goOn (.dead hW.way HD.out) hW.mem (Nxt.refl _ _ _) ⟨rfl, rfl, rfl⟩, HK.out⟩
        case measure => simp [intOf]; omega
      · have hcp : ((σ1.cps p : Int) == 0) = false := by simp; omega
        have HD := Lib.hid hd
        have t0 := HLC.out.1 0 (by rw [← HLE.out]; omega)
        have t1 := HLC.out.1 1 (by rw [← HLE.out]; omega)
        have z0 := HLC.out.2 0
        have z1 := HLC.out.2 1
        obtain ⟨a00, ha00⟩ : ∃ a, a = (σ1.lits p)[0]! := ⟨_, rfl⟩
        obtain ⟨a11, ha11⟩ : ∃ a, a = (σ1.lits p)[1]! := ⟨_, rfl⟩
        rw [← ha00] at t0
        rw [← ha11] at t1
        have HA0 := Lib.hid ha00
        have HA1 := Lib.hid ha11
        have l0n : 0 < len := by omega
        have l0z : (0 : Int) < (len : Int) := by omega
        have l1z : (1 : Int) < (len : Int) := by omega
        have hlgw := World.block_lt_of_cell? wr _ t0
        clear ha00 ha11 hd
        go_upto_if 47 with fail
        have hlt0 : wr.heap.size = wr.heap.size := rfl
        have HWA : Hid (WkMem w (wr.alloc (.cells #[.slice (some ⟨lg, 0, none⟩) len lc, .int .i64 (σ1.cps p : Int)] 72)) Y σ n g c k σ1 K (p :: X.drop (k + 1)) Y1) := HW.out.frm ((Frm.refl _ _ _).alloc _)
        have HXA : Hid (OwnR (wr.alloc (.cells #[.slice (some ⟨lg, 0, none⟩) len lc, .int .i64 (σ1.cps p : Int)] 72)) Y1.ρ (.wl n) 3 1 (.slice (some ⟨g, 0, none⟩) N c) N (X.map encN)) := HX.out.1.keep (S := fun _ => false) ((Frm.refl _ _ _).alloc _) rfl (fun _ _ => rfl)
        have HX2 := Lib.hid HX.out.2
        have bz : ∀ j, (wr.alloc (.cells #[.slice (some ⟨lg, 0, none⟩) len lc, .int .i64 (σ1.cps p : Int)] 72)).frozen? ⟨lg, j, none⟩ = wr.frozen? ⟨lg, j, none⟩ := fun j => World.frozen?_of_block (Below.heap_alloc wr _ _ hlgw)
        have bc : ∀ j, (wr.alloc (.cells #[.slice (some ⟨lg, 0, none⟩) len lc, .int .i64 (σ1.cps p : Int)] 72)).cell? ⟨lg, j, none⟩ = wr.cell? ⟨lg, j, none⟩ := fun j => World.cell?_of_block (a := ⟨lg, j, none⟩) (Below.heap_alloc wr _ _ hlgw)
        rw [← bc] at t0 t1
        rw [← bz] at z0 z1
        clear bz bc HX HW hlt0 d0 cr0 cr1 c5 hlgw
        generalize wr.alloc (.cells #[.slice (some ⟨lg, 0, none⟩) len lc, .int .i64 (σ1.cps p : Int)] 72) = W at *
        generalize wr.heap.size = H at *
        go_cut [] (fun wx => Hid (Mem wx Y1 (σ1.snd p n) (some n) ∧ Frm Y1.ρ (sLits p) W wx))
        case first =>
          by_cases hal : a00 = n
          · have hb : (a00 == n) = true := by simp [hal]
            go_wp2_with fail
            go_meet
            have hsw := HWA.out.mem.swap HRN.out.cur.1 EL.out.1 0 1 (by rw [← HLE.out]; omega) (by rw [← HLE.out]; omega) a11 a00 HA1.out HA0.out
            rw [hal] at hsw
            refine ⟨?_, hsw.2⟩
            unfold St.snd
            rw [if_pos (by rw [← HA0.out]; exact hal)]
            exact hsw.1
          · have hb : (a00 == n) = false := by simpa using hal
            go_wp2_with fail
            go_meet
            refine ⟨?_, Frm.refl _ _ _⟩
            unfold St.snd
            rw [if_neg (by rw [← HA0.out]; exact hal)]
            exact HWA.out.mem
        case rest =>
          obtain ⟨σ2, hσ2⟩ : ∃ σ2, σ2 = σ1.snd p n := ⟨_, rfl⟩
          have HCm : Hid (Mem wc Y1 σ2 (some n) ∧ Frm Y1.ρ (sLits p) W wc) := by rw [hσ2]; exact hcut
          have H2 : Hid (σ2 = σ1.snd p n) := hσ2
          have HR2 : Hid (Run σ2 n K (p :: X.drop (k + 1)) b so) := by rw [hσ2]; exact HRN.out.snd
          have hlen2 : len = (σ2.lits p).length := by rw [hσ2, snd_len]; exact HLE.out
          have HL2 := Lib.hid hlen2
          obtain ⟨lg2, lc2, el2, hg1, hg2, hg3, hg4⟩ := HCm.out.1.litAt HR2.out.cur.1 (by omega)
          have elg : lg = lg2 := by have := EL.out.1.symm.trans el2; simp at this; exact this.1
          subst elg
          obtain ⟨a0, ha0⟩ : ∃ a0, a0 = (σ2.lits p)[0]! := ⟨_, rfl⟩
          have s0 := hg3 0 (by omega)
          rw [← ha0] at s0
          have HA := Lib.hid ha0
          have HA0L : Hid (Lt σ2.V a0) := by rw [ha0]; exact HR2.out.inv.c.lt p HR2.out.cur.1 _ (mem! (by omega))
          have HT : Hid (∀ q, Calls Tryd.prog 43 #[.pointer (some ⟨Y.s, 0, none⟩), .int .i64 a0] (wc.drewN q) fun e w' => e = .returned (.bool (σ2.val a0)) ∧ ∃ q', w' = (wc.drewN q).drewN q') := fun q => by rw [← HS1.out]; exact isTrue_any (HCm.out.1.drewN q) a0 HA0L.out.in'
          have hklN : kl < N := by omega
          have hroom : kl + 1 ≤ c := by omega
          obtain ⟨X3, x1, x2, x3, x4⟩ := HWA.out.arr
          rw [← HN.out] at x1 x2
          have x1c := x1.keep HCm.out.2 rfl (fun _ _ => rfl)
          have HX3 := Lib.hid (And.intro x1c (And.intro x2 (And.intro x3 x4)))
          obtain ⟨ii, hi, hz0, hz1, hz2⟩ := info_parts infoInt
          clear hcut hσ2 hlen2 el2 hg1 hg2 hg3 hg4 ha0 x1 x1c x2 x3 x4 t0 t1 z0 z1
          cases hv : σ2.val a0 with
          | true =>
            rw [hv] at HT
            have HV := Lib.hid hv
            clear hv
            go_wp2_with fail
            go_quiet ((go_at_call 43; exact Calls.quiet_of (HT.out _)))
            rename_i nq
            have HMB : Hid (Mem (wc.drewN nq) Y1 σ2 (some n) ∧ Frm Y1.ρ (sLits p) W (wc.drewN nq)) := ⟨HCm.out.1.drewN nq, HCm.out.2.drewN nq⟩
            have HXB : Hid (OwnR (wc.drewN nq) Y1.ρ (.wl n) 3 1 (.slice (some ⟨g, 0, none⟩) N c) N (X3.map encN)) := HX3.out.1.keep (S := fun _ => false) ((Frm.refl _ _ _).drewN nq) rfl (fun _ _ => rfl)
            clear HT HCm s0
            generalize wc.drewN nq = V at *
            have HXC : Hid (OwnR (V.alloc (.cells #[.int .i64 (p : Int)] 3)) Y1.ρ (.wl n) 3 1 (.slice (some ⟨g, 0, none⟩) N c) N (X3.map encN)) := HXB.out.keep (S := fun _ => false) ((Frm.refl _ _ _).alloc _) rfl (fun _ _ => rfl)
            go_wp2_with (at_builtin; refine wpList_append_one _ rfl _ _ _ rfl 3 ii Tryd.underlying23 hi hz1 g kl c rfl ⟨V.heap.size, 0, none⟩ 1 (.int .i64 (p : Int)) rfl ?c1 rfl hroom ?c2 ?c3 ?_)
            case c1 => simp [World.cell?_alloc_new]
            case c2 => rw [HXC.out.cellM (by rw [HX3.out.2.1]; exact hklN)]; rfl
            case c3 => exact HXC.out.free _
            go_wp2_with fail
            go_roundw
            case rel =>
              obtain ⟨z1, z2, X4, z3⟩ := put_all HMB.out.1 HXB.out HWA.out.row HX3.out.2.1 HX3.out.2.2.1 HX3.out.2.2.2 HK.out hkl hlt p
              have hv1 : σ1.val ((σ1.snd p n).lits p)[0]! = true := by rw [← snd_val σ1 p n, ← H2.out, ← HA.out]; exact HV.out
              have hway := WkTo.sat HWA.out.way HD.out hv1
              rw [← H2.out] at hway
              exact ⟨k + 1, kl + 1, by go_num, rfl, by omega, by omega, σ2, K ++ [p], X.drop (k + 1), Y1, HWA.out.next hway z1 (Nxt.same ((HMB.out.2.mono (T := sAny) (sAny_le rfl)).trans (z2.mono (sAny_le rfl)) (fun _ _ => rfl))) ⟨X4, by rw [← HN.out]; exact z3⟩ (by simp) (by rw [H2.out]; exact ⟨snd_V _ _ _, snd_N _ _ _, snd_cps _ _ _⟩), by rw [List.length_append, HK.out]; rfl⟩
            case measure => simp [intOf]; omega
          | false =>
            rw [hv] at HT
            have HV := Lib.hid hv
            clear hv
            have HRW : Hid (∀ q, Calls Tryd.prog 80 #[.pointer (some ⟨Y.s, 0, none⟩), .int .i64 (p : Int)] (wc.drewN q) (RwE (wc.drewN q) Y1 σ2 n p)) := fun q => by
              rw [← HS1.out]
              have hN2' : σ2.N ≤ 10000000 := by rw [H2.out, snd_N, HWA.out.same.2.1]; exact hN
              refine rewatch_any (HCm.out.1.drewN q) p HR2.out.cur.1 HR2.out.cur.2.1 (HR2.out.inv.c.lt p HR2.out.cur.1) ((HR2.out.inv.t.val _ HR2.out.lt.neg.in').2 HR2.out.neg) (fun l hl hne => ?_) (by have := HR2.out.inv.c.len p HR2.out.cur.1; omega) (by omega)
              have := HR2.out.inv.w.len hl.in'
              rw [updI_ne _ _ _ hne] at this
              omega
            go_wp2_with fail
            go_quiet ((go_at_call 43; exact Calls.quiet_of (HT.out _)))
            rename_i nq
            go_wp2_with fail
            refine (HRW.out _).mono ?_
            intro e w5 hE
            rcases hE with ⟨rfl, hF, q, hq⟩ | ⟨rfl, i, Y5, hi1, hi2, hi3, hm5, hn5, hl5⟩
            · have HMB : Hid (Mem w5 Y1 σ2 (some n) ∧ Frm Y1.ρ (sLits p) W w5) := by rw [hq]; exact ⟨(HCm.out.1.drewN nq).drewN q, (HCm.out.2.drewN nq).drewN q⟩
              have HXB : Hid (OwnR w5 Y1.ρ (.wl n) 3 1 (.slice (some ⟨g, 0, none⟩) N c) N (X3.map encN)) := by rw [hq]; exact HX3.out.1.keep (S := fun _ => false) (((Frm.refl _ _ _).drewN nq).drewN q) rfl (fun _ _ => rfl)
              have HFJ := Lib.hid hF
              clear HT HCm s0 HRW hF hq
              have HXC : Hid (OwnR (w5.alloc (.cells #[.int .i64 (p : Int)] 3)) Y1.ρ (.wl n) 3 1 (.slice (some ⟨g, 0, none⟩) N c) N (X3.map encN)) := HXB.out.keep (S := fun _ => false) ((Frm.refl _ _ _).alloc _) rfl (fun _ _ => rfl)
              go_wp2_with (at_builtin; refine wpList_append_one _ rfl _ _ _ rfl 3 ii Tryd.underlying23 hi hz1 g kl c rfl ⟨w5.heap.size, 0, none⟩ 1 (.int .i64 (p : Int)) rfl ?e1 rfl hroom ?e2 ?e3 ?_)
              case e1 => simp [World.cell?_alloc_new]
              case e2 => rw [HXC.out.cellM (by rw [HX3.out.2.1]; exact hklN)]; rfl
              case e3 => exact HXC.out.free _
              have HPUT := Lib.hid (put_all HMB.out.1 HXB.out HWA.out.row HX3.out.2.1 HX3.out.2.2.1 HX3.out.2.2.2 HK.out hkl hlt p)
              clear HXC HXB
              generalize (w5.alloc (.cells #[.int .i64 (p : Int)] 3)).setCell ⟨g, kl, none⟩ (.int .i64 (p : Int)) = V at *
              have s9 : V.cell? ⟨lg, 0, none⟩ = some (.int .i64 a0) := by
                obtain ⟨lg2, lc2, el2, hg1, hg2, hg3, hg4⟩ := HPUT.out.1.litAt HR2.out.cur.1 (by rw [← HL2.out]; omega)
                have elg : lg = lg2 := by have := EL.out.1.symm.trans el2; simp at this; exact this.1
                subst elg
                rw [hg3 0 (by rw [← HL2.out]; omega), ← HA.out]
              have HT : Hid (∀ q, Calls Tryd.prog 44 #[.pointer (some ⟨Y.s, 0, none⟩), .int .i64 a0] (V.drewN q) fun e w' => e = .returned (.bool (σ2.val (-a0))) ∧ ∃ q', w' = (V.drewN q).drewN q') := fun q => by rw [← HS1.out]; exact isFalse_any (HPUT.out.1.drewN q) a0 HA0L.out.in'
              cases hv2 : σ2.val (-a0) with
              | true =>
                rw [hv2] at HT
                have HV2 := Lib.hid hv2
                clear hv2
                go_wp2_with fail
                go_quiet ((go_at_call 44; exact Calls.quiet_of (HT.out _)))
                have hs1 : Y1.s = Y.s := HS1.out
                have hV2 : σ2.V = σ.V := by rw [H2.out, snd_V]; exact HWA.out.same.1
                have HMV : Hid (Mem (V.drewN nq) Y1 σ2 (some n) ∧ Frm Y1.ρ (sWx n) w5 (V.drewN nq)) := ⟨HPUT.out.1.drewN nq, HPUT.out.2.1.drewN nq⟩
                have HY4 : Hid (∃ X4 : List Nat, OwnR (V.drewN nq) Y1.ρ (.wl n) 3 1 (.slice (some ⟨g, 0, none⟩) N c) N (X4.map encN) ∧ X4.length = N ∧ X4.take (K ++ [p]).length = K ++ [p] ∧ X4.drop (k + 1) = X.drop (k + 1)) := by
                  obtain ⟨X4, z3, z4⟩ := HPUT.out.2.2
                  exact ⟨X4, z3.keep (S := fun _ => false) ((Frm.refl _ _ _).drewN nq) rfl (fun _ _ => rfl), z4⟩
                clear s9 HPUT HT
                generalize V.drewN nq = W9 at *
                obtain ⟨X4, y1, y2, y3, y4⟩ := HY4.out
                have c89 := HMV.out.1.cell 8 (by omega)
                obtain ⟨wB9, e89, r89, p89⟩ := HMV.out.1 .wat
                rw [hs1, e89, hV2] at c89
                have c09 := HMV.out.1.vars
                rw [hs1, hV2] at c09
                have dl := r89.cell (i := ix σ.V n) (by rw [hV2]; exact ix_lt HL.out.in')
                have zl := r89.free (ix σ.V n)
                have E89 := Lib.hid (And.intro e89 p89)
                have hgw : g ≠ wB9 := fun e => by rw [← e, HWA.out.row] at p89; cases p89
                have hgs : g ≠ Y.s := fun e => by have := HMV.out.1.srole; rw [hs1, ← e, HWA.out.row] at this; cases this
                have hkl1 : kl + 1 ≤ N := by omega
                have ho := (y1.take (m := kl + 1) hkl1).1
                have hK4 : X4.take (kl + 1) = K ++ [p] := by
                  have := y3
                  rw [List.length_append, HK.out] at this
                  exact this
                rw [← List.map_take, hK4] at ho
                have HY := Lib.hid (And.intro y1 (And.intro y2 y4))
                have hfit : kl + 1 + (N - (k + 1)) ≤ c := by omega
                have hwr : IntKind.i64.wrap ((k : Int) + 1) = (k : Int) + 1 := IntWalk.i64_in _ (by omega)
                have htn : ((k : Int) + 1).toNat = k + 1 := by omega
                have kN : (k : Int) + 1 ≤ (N : Int) := by omega
                have k1 : (0 : Int) ≤ (k : Int) + 1 := by omega
                have Hnews : Hid (∀ j u, ((X4.drop (k + 1)).map encN)[j]? = some u → W9.drew.cell? ((if c = k + 1 then (⟨g, 0, none⟩ : Addr) else ⟨g, k + 1, none⟩).add j) = some u) := Lib.hid (row_drop (w := W9.drew) (k := k + 1) (HY.out.1.keep (S := fun _ => false) ((Frm.refl _ _ _).drew) rfl (fun _ _ => rfl)) HY.out.2.1 (by omega) hc1)
                have HOd := Lib.hid (World.ownsRow.drew ho)
                have dld : W9.drew.cell? ⟨wB9, ix σ.V n, none⟩ = _ := dl
                have zld : W9.drew.frozen? ⟨wB9, ix σ.V n, none⟩ = _ := zl
                have Hone : Hid (∀ u ∈ (X4.drop (k + 1)).map encN, u.oneCell' = true) := fun u hu => by
                  obtain ⟨z, _, rfl⟩ := List.mem_map.1 hu; rfl
                have Hlen : Hid (((X4.drop (k + 1)).map encN).length = (N - (k + 1)) * 1) := by rw [Hid, List.length_map, List.length_drop, HY.out.2.1, Nat.mul_one]
                have Hao : Hid ((if c = k + 1 then some (⟨g, 0, none⟩ : Addr) else some ⟨g, k + 1, none⟩) = some (if c = k + 1 then (⟨g, 0, none⟩ : Addr) else ⟨g, k + 1, none⟩)) := Lib.hid (by split <;> rfl)
                have HI2 : Hid (∀ w', w'.cell? ⟨Y.s, 0, none⟩ = some (.int .i64 (σ.V : Int)) → Calls Tryd.prog 68 #[.pointer (some ⟨Y.s, 0, none⟩), .int .i64 n] w' fun e w'' => e = .returned (.int .i64 (ix σ.V n : Int)) ∧ w' = w'') := fun w' hc => index_cell hc hV HL.out.in'
                clear y1 y2 y3 y4 ho hK4 e89 r89 p89
                go_wp2_with fail
                refine wp_region_L (S := fun w' => w'.cell? ⟨Y.s, 8, none⟩ = some (.slice (some ⟨wB9, 0, none⟩) (2 * σ.V + 1) (2 * σ.V + 1)) ∧ w'.cell? ⟨Y.s, 0, none⟩ = some (.int .i64 (σ.V : Int))) 17 (by kernel_rfl) (⟨c89, c09⟩) (fun hSx => ?_)
                refine wpAnyL_take (i := 0) (v := ?vg0_0) rfl (by kernel_rfl) (fun _ _ _ h => h) ?g0_0 rfl hSx ?_
                case g0_0 => (intro w' hSw; (try dsimp only at hSw); go_split_ands; go_simp; try with_reducible rfl)
                clear hSx; intro hSx
                try simp only [Act.put, List.getElem_toArray, List.getElem_cons_zero, List.setIfInBounds_toArray, List.set_cons_zero, List.set_cons_succ]
                refine wpAnyL_take (i := 1) (v := ?vg1_1) rfl (by kernel_rfl) (fun _ _ _ h => h) ?g1_1 rfl hSx ?_
                case g1_1 => (intro w' hSw; (try dsimp only at hSw); go_split_ands; go_simp; try with_reducible rfl)
                clear hSx; intro hSx
                try simp only [Act.put, List.getElem_toArray, List.getElem_cons_succ, List.getElem_cons_zero, List.setIfInBounds_toArray, List.set_cons_zero, List.set_cons_succ]
                refine wpAnyL_take (i := 2) (v := ?vg2_2) rfl (by kernel_rfl) (fun _ _ _ h => h) ?g2_2 rfl hSx ?_
                case g2_2 => (intro w' hSw; (try dsimp only at hSw); go_split_ands; go_simp; try with_reducible rfl)
                clear hSx; intro hSx
                try simp only [Act.put, List.getElem_toArray, List.getElem_cons_succ, List.getElem_cons_zero, List.setIfInBounds_toArray, List.set_cons_zero, List.set_cons_succ]
                refine wpAnyL_take (i := 3) (v := ?vg3_3) rfl (by kernel_rfl) (fun _ _ _ h => h) ?g3_3 rfl hSx ?_
                case g3_3 => (intro w' hSw; (try dsimp only at hSw); go_split_ands; go_simp; try with_reducible rfl)
                clear hSx; intro hSx
                try simp only [Act.put, List.getElem_toArray, List.getElem_cons_succ, List.getElem_cons_zero, List.setIfInBounds_toArray, List.set_cons_zero, List.set_cons_succ]
                refine wpAnyL_take (i := 4) (v := ?vg4_4) rfl (by kernel_rfl) (fun _ _ _ h => h) ?g4_4 rfl hSx ?_
                case g4_4 => (intro w' hSw; (try dsimp only at hSw); go_split_ands; go_simp; try with_reducible rfl)
                clear hSx; intro hSx
                try simp only [Act.put, List.getElem_toArray, List.getElem_cons_succ, List.getElem_cons_zero, List.setIfInBounds_toArray, List.set_cons_zero, List.set_cons_succ]
                refine wpAnyL_take (i := 5) (v := ?vg5_5) rfl (by kernel_rfl) (fun _ _ _ h => h) ?g5_5 rfl hSx ?_
                case g5_5 => (intro w' hSw; (try dsimp only at hSw); go_split_ands; go_simp; try with_reducible rfl)
                clear hSx; intro hSx
                try simp only [Act.put, List.getElem_toArray, List.getElem_cons_succ, List.getElem_cons_zero, List.setIfInBounds_toArray, List.set_cons_zero, List.set_cons_succ]
                refine wpAnyL_take (i := 6) (v := ?vg6_6) rfl (by kernel_rfl) (fun _ _ _ h => h) ?g6_6 rfl hSx ?_
                case g6_6 => (intro w' hSw; (try dsimp only at hSw); go_split_ands; go_simp; try with_reducible rfl)
                clear hSx; intro hSx
                try simp only [Act.put, List.getElem_toArray, List.getElem_cons_succ, List.getElem_cons_zero, List.setIfInBounds_toArray, List.set_cons_zero, List.set_cons_succ]
                refine wpAnyL_take (i := 7) (v := ?vg7_7) rfl (by kernel_rfl) (fun _ _ _ h => h) ?g7_7 rfl hSx ?_
                case g7_7 => (intro w' hSw; (try dsimp only at hSw); go_split_ands; go_simp; try with_reducible rfl)
                clear hSx; intro hSx
                try simp only [Act.put, List.getElem_toArray, List.getElem_cons_succ, List.getElem_cons_zero, List.setIfInBounds_toArray, List.set_cons_zero, List.set_cons_succ]
                refine wpAnyL_take (i := 9) (v := ?vg8_9) rfl (by kernel_rfl) (fun _ _ _ h => h) ?g8_9 rfl hSx ?_
                case g8_9 => (intro w' hSw; (try dsimp only at hSw); go_split_ands; go_simp; try with_reducible rfl)
                clear hSx; intro hSx
                try simp only [Act.put, List.getElem_toArray, List.getElem_cons_succ, List.getElem_cons_zero, List.setIfInBounds_toArray, List.set_cons_zero, List.set_cons_succ]
                refine wpAnyL_take (i := 10) (v := ?vg9_10) rfl (by kernel_rfl) (fun _ _ _ h => h) ?g9_10 rfl hSx ?_
                case g9_10 => (intro w' hSw; (try dsimp only at hSw); go_split_ands; go_simp; try with_reducible rfl)
                clear hSx; intro hSx
                try simp only [Act.put, List.getElem_toArray, List.getElem_cons_succ, List.getElem_cons_zero, List.setIfInBounds_toArray, List.set_cons_zero, List.set_cons_succ]
                refine wpAnyL_take (i := 11) (v := ?vg10_11) rfl (by kernel_rfl) (fun _ _ _ h => h) ?g10_11 rfl hSx ?_
                case g10_11 => (intro w' hSw; (try dsimp only at hSw); go_split_ands; go_simp; try with_reducible rfl)
                clear hSx; intro hSx
                try simp only [Act.put, List.getElem_toArray, List.getElem_cons_succ, List.getElem_cons_zero, List.setIfInBounds_toArray, List.set_cons_zero, List.set_cons_succ]
                refine wpAnyL_take (i := 12) (v := ?vg11_12) rfl (by kernel_rfl) (fun _ _ _ h => h) ?g11_12 rfl hSx ?_
                case g11_12 => (intro w' hSw; (try dsimp only at hSw); go_split_ands; go_simp; try with_reducible rfl)
                clear hSx; intro hSx
                try simp only [Act.put, List.getElem_toArray, List.getElem_cons_succ, List.getElem_cons_zero, List.setIfInBounds_toArray, List.set_cons_zero, List.set_cons_succ]
                refine wpAnyL_take (i := 13) (v := ?vg12_13) rfl (by kernel_rfl) (fun _ _ _ h => h) ?g12_13 rfl hSx ?_
                case g12_13 => (intro w' hSw; (try dsimp only at hSw); go_split_ands; go_simp; try with_reducible rfl)
                clear hSx; intro hSx
                try simp only [Act.put, List.getElem_toArray, List.getElem_cons_succ, List.getElem_cons_zero, List.setIfInBounds_toArray, List.set_cons_zero, List.set_cons_succ]
                (try dsimp only at hSx); go_split_ands
                refine' wpAnyL_one (i := 8) ?tag13_8 ?tbg13_8 ?tcg13_8 ?tdg13_8
                case tbg13_8 => rfl
                case tag13_8 => kernel_rfl
                case tcg13_8 => rfl
                intro K hK
                go_simp; refine (HI2.out _ (by assumption)).mono ?_; rintro e w' ⟨rfl, rfl⟩; (try dsimp only)
                refine hK.out _ _ ?kg13_8 (fun hSx => ?_)
                case kg13_8 => go_keep
                clear hK K
                try simp only [Act.put, List.getElem_toArray, List.getElem_cons_succ, List.getElem_cons_zero, List.setIfInBounds_toArray, List.set_cons_zero, List.set_cons_succ]
                (try dsimp only at hSx); go_split_ands
                refine' wpAnyL_one (i := 14) ?tag14_14 ?tbg14_14 ?tcg14_14 ?tdg14_14
                case tbg14_14 => rfl
                case tag14_14 => kernel_rfl
                case tcg14_14 => rfl
                intro K hK
                refine wp_append_fits2 _ _ _ 23 rfl 0 3 ii 1 Tryd.underlying23 hi hz1 g (kl + 1) c _ (by rfl) HOd.out _ _ (N - (k + 1)) _ ((X4.drop (k + 1)).map encN) (by rfl) Hao.out Hlen.out Hnews.out Hone.out hfit ?_; intro w10 hown hgrow; have dl9 := hgrow.cell (a := ⟨wB9, ix σ.V n, none⟩) dld (fun e => hgw (by simpa using e.symm)); have zl9 := (hgrow.frozen_far ⟨wB9, ix σ.V n, none⟩ (World.block_lt_of_cell? _ _ dld) (fun e => hgw (by simpa using e.symm))).trans zld
                refine hK.out _ _ ⟨hgrow.cell (by assumption) (fun e => hgs (by simpa using e.symm)), hgrow.cell (by assumption) (fun e => hgs (by simpa using e.symm))⟩ (fun hSx => ?_)
                clear hK K
                try simp only [Act.put, List.getElem_toArray, List.getElem_cons_succ, List.getElem_cons_zero, List.setIfInBounds_toArray, List.set_cons_zero, List.set_cons_succ]
                refine wpAnyL_take (i := 15) (v := ?vg15_15) rfl (by kernel_rfl) (fun _ _ _ h => h) ?g15_15 rfl hSx ?_
                case g15_15 => (intro w' hSw; (try dsimp only at hSw); go_split_ands; go_simp; try with_reducible rfl)
                clear hSx; intro hSx
                try simp only [Act.put, List.getElem_toArray, List.getElem_cons_succ, List.getElem_cons_zero, List.setIfInBounds_toArray, List.set_cons_zero, List.set_cons_succ]
                (try dsimp only at hSx); go_split_ands
                refine' wpAnyL_last (i := 16) ?tag16_16 ?tbg16_16 ?tcg16_16 ?tdg16_16
                case tbg16_16 => rfl
                case tag16_16 => kernel_rfl
                case tcg16_16 => rfl
                intro K hK
                go_simp
                refine hK.out _ _ ?_
                clear hK K
                clear Hao Hnews
                generalize (if c = k + 1 then some (⟨g, 0, none⟩ : Addr) else some ⟨g, k + 1, none⟩) = ao9
                have HG := Lib.hid (And.intro hown hgrow)
                clear hown hgrow hwr htn dl9 zl9 dl zl dld zld
                go_wp2_with fail
                go_ret
                have hF10 : Frm Y1.ρ (sWx n) W9.drew w10 := Frm.grown HG.out.2 (fun q hq _ => by rw [← Option.some.inj hq, HWA.out.row]; simp [sWx])
                have hM10 := HMV.out.1.drew.wlOut hF10
                have hO10 : OwnR w10 Y1.ρ (.wl n) 3 1 (.slice (some ⟨g, 0, none⟩) (kl + 1 + (N - (k + 1))) c) (K ++ p :: X.drop (k + 1)).length ((K ++ p :: X.drop (k + 1)).map encN) := by
                  refine ⟨?_, fun q hq => by rw [← ownB hq]; exact HWA.out.row⟩
                  have h1 := HG.out.1
                  have e1 : (K ++ [p]).map encN ++ (X4.drop (k + 1)).map encN = (K ++ p :: X.drop (k + 1)).map encN := by
                    rw [HY.out.2.2, ← List.map_append]; simp
                  have e2 : (K ++ p :: X.drop (k + 1)).length = kl + 1 + (N - (k + 1)) := by
                    rw [List.length_append, List.length_cons, List.length_drop, HK.out, HX2.out.1]; omega
                  rw [e1] at h1
                  rw [e2]
                  exact h1
                have hFin := hM10.layWl (by rw [hV2]; exact HL.out.in') E89.out.1 E89.out.2 hO10
                have hv3 : σ1.val (-((σ1.snd p n).lits p)[0]!) = true := by rw [← snd_val σ1 p n, ← H2.out, ← HA.out]; exact HV2.out
                have hend := WkEnd.bad HWA.out.way HD.out (by rw [← H2.out, ← snd_val σ1 p n, ← H2.out]; exact HFJ.out) hv3
                have hw2 : σ1.wat = σ2.wat := by rw [H2.out, snd_wat]
                rw [← H2.out, hw2] at hend
                rw [← hV2]
                exact ⟨_, (p : Int), _, rfl, hend, hFin.1, HWA.out.nxt.trans ((Nxt.same ((HMB.out.2.mono (T := sAny) (sAny_le rfl)).trans ((HMV.out.2.drew.trans hF10 (fun _ _ => rfl)).mono (sAny_le rfl)) (fun _ _ => rfl))).trans (hFin.2.mono (sAny_le rfl)))⟩
              | false =>
                rw [hv2] at HT
                have HV2 := Lib.hid hv2
                clear hv2
                have HAS : Hid (∀ q, Calls Tryd.prog 45 #[.pointer (some ⟨Y.s, 0, none⟩), .int .i64 a0, .int .i64 (p : Int)] (V.drewN q) fun e w' => e = .returned (.tuple #[]) ∧ ∃ Y', Mem w' Y' (σ2.asn a0 (p : Int)) (some n) ∧ Nxt sAsn (V.drewN q) Y1 w' Y' ∧ Y'.litV = Y1.litV) := fun q => by
                  rw [← HS1.out]
                  exact assign_any (HPUT.out.1.drewN q) a0 HA0L.out.in' p (by have := HR2.out.inv.t.len; have := HPUT.out.1.nle; omega)
                go_wp2_with fail
                go_quiet ((go_at_call 44; exact Calls.quiet_of (HT.out _)))
                go_wp2_with fail
                go_region_with (go_at_call 45; refine (HAS.out _).mono ?_; rintro e w6 ⟨rfl, Y6, hm6, hn6, hl6⟩)
                have HE := Lib.hid (And.intro hm6 (And.intro hn6 hl6))
                clear hm6 hn6 hl6 HAS HT
                go_wp2_with fail
                go_roundw
                case rel =>
                  obtain ⟨z1, z2, X4, z3, z4⟩ := HPUT.out
                  have hv1 : σ1.val ((σ1.snd p n).lits p)[0]! = false := by rw [← snd_val σ1 p n, ← H2.out, ← HA.out]; exact HV.out
                  have hv3 : σ1.val (-((σ1.snd p n).lits p)[0]!) = false := by rw [← snd_val σ1 p n, ← H2.out, ← HA.out]; exact HV2.out
                  have hway := WkTo.unit HWA.out.way HD.out hv1 (by rw [← H2.out, ← snd_val σ1 p n, ← H2.out]; exact HFJ.out) hv3
                  rw [← H2.out, ← HA.out] at hway
                  have F6 : Frm Y1.ρ sAsn V w6 := Frm.trans ((Frm.refl _ _ _).drewN _) HE.out.2.1.frm (fun _ _ => rfl)
                  have N6 : Nxt sAny W Y1 w6 Y6 := ⟨((HMB.out.2.mono (T := sAny) (sAny_le rfl)).trans (z2.mono (sAny_le rfl)) (fun _ _ => rfl)).trans (F6.mono (sAny_le rfl)) (fun _ _ => rfl), HE.out.2.1.s, fun i hi => HE.out.2.1.ext i (Nat.lt_of_lt_of_le hi (Nat.le_trans HMB.out.2.size z2.size))⟩
                  exact ⟨k + 1, kl + 1, by go_num, rfl, by omega, by omega, σ2.asn a0 (p : Int), K ++ [p], X.drop (k + 1), Y6, HWA.out.next hway HE.out.1 N6 ⟨X4, by rw [← HN.out]; exact ⟨z3.keep F6 rfl (fun i hi => HE.out.2.1.ext i hi), z4⟩⟩ (by simp) (by rw [H2.out]; exact ⟨snd_V _ _ _, snd_N _ _ _, snd_cps _ _ _⟩), by rw [List.length_append, HK.out]; rfl⟩
                case measure => simp [intOf]; omega
            · have HE : Hid (WkTo σ n (σ2.rew p i) K (X.drop (k + 1)) ∧ Mem w5 Y5 (σ2.rew p i) (some n) ∧ Nxt (fun q => match q with | .wl j => j != n | .old => false | _ => true) W Y1 w5 Y5) := by
                refine ⟨?_, hm5, (Nxt.same ((HCm.out.2.drewN nq).mono fun r hr => ?_)).trans (hn5.mono fun r hr => ?_)⟩
                · have := WkTo.move (i := i) HWA.out.way HD.out hi1 (by rw [← H2.out]; exact hi2) (by rw [← snd_val σ1 p n, ← H2.out]; exact hi3)
                  rw [← H2.out] at this
                  exact this
                · cases r <;> first | rfl | cases hr
                · cases r <;> first | rfl | exact hr | cases hr
              clear hm5 hn5 hi3
              go_wp2_with fail
              go_roundw
              case rel => exact ⟨k + 1, kl, by go_num, rfl, by omega, by omega, σ2.rew p i, K, X.drop (k + 1), Y5, HWA.out.goOn HE.out.1 HE.out.2.1 HE.out.2.2 (by rw [H2.out]; exact ⟨snd_V _ _ _, snd_N _ _ _, snd_cps _ _ _⟩), HK.out⟩
              case measure => simp [intOf]; omega
    · have hkN : k = N := by omega
      obtain ⟨X, x1, x2, x3, x4⟩ := W1.arr
      have hR : R = [] := List.eq_nil_of_length_eq_zero (by have := W1.count.1; rw [← HN.out] at this; omega)
      rw [← HN.out] at x1 x2
      have hKX : X.take kl = K := by rw [← hKl]; exact x3
      have hO : OwnR wr Y1.ρ (.wl n) 3 1 (.slice (some ⟨g, 0, none⟩) K.length c) K.length (K.map encN) := by
        have := x1.take (m := kl) (by omega)
        rw [← List.map_take, hKX] at this
        rw [hKl]; exact this
      have hs1 : Y1.s = Y.s := W1.nxt.s
      have hV1 : σ1.V = σ.V := W1.same.1
      obtain ⟨wB1, e81, r81, p81⟩ := W1.mem .wat
      have c81 := W1.mem.cell 8 (by omega)
      rw [hs1, e81, hV1] at c81
      have dl := r81.cell (i := ix σ.V n) (by rw [hV1]; exact ix_lt HL.out.in')
      have zl := r81.free (ix σ.V n)
      have nB : Y.s ≠ wB1 := fun e => by have := W1.mem.srole; rw [hs1, e, p81] at this; cases this
      have nB' : wB1 ≠ Y.s := fun e => nB e.symm
      have HI2 : Hid (∀ q, Calls Tryd.prog 68 #[.pointer (some ⟨Y.s, 0, none⟩), .int .i64 n] (wr.drewN q) fun e w' => e = .returned (.int .i64 (ix σ.V n : Int)) ∧ wr.drewN q = w') := fun q => by
        have := W1.mem.vars
        rw [hs1, hV1] at this
        exact index_cell this hV HL.out.in'
      have HFIN : Hid (∀ q, WaE w Y σ n (.returned (.int .i64 (-1))) ((wr.drewN q).setCell ⟨wB1, ix σ.V n, none⟩ (.slice (some ⟨g, 0, none⟩) kl c))) := fun q => by
        have hlay := (W1.mem.drewN q).layWl (n := n) (v := .slice (some ⟨g, 0, none⟩) kl c) (ws := K) (by rw [hV1]; exact HL.out.in') e81 p81 (by rw [← hKl]; exact hO.keep (S := fun _ => false) ((Frm.refl _ _ _).drewN q) rfl (fun _ _ => rfl))
        have hway := W1.way
        rw [hR] at hway
        rw [← hV1]
        exact ⟨_, -1, _, rfl, .done hway, hlay.1, (W1.nxt.drewN q).trans (hlay.2.mono (sAny_le rfl))⟩
      have hz : decide ((k : Int) < (N : Int)) = false := by simp; omega
      have hz' : ¬ (k : Int) < (N : Int) := by omega
      clear x1 x2 x3 x4 hKX hO W1 r81 e81 hV1 HH hR
      go_wp2_with fail
      go_region_held3 (fun w' => w'.cell? ⟨Y.s, 8, none⟩ = some (.slice (some ⟨wB1, 0, none⟩) (2 * σ.V + 1) (2 * σ.V + 1))) (go_keep) (first | (go_at_call 68; refine (HI2.out _).mono ?_; rintro e w' ⟨rfl, rfl⟩))
      go_wp2_with fail
      go_ret
      exact HFIN.out _
end Go.Proofs.YthpamogomfleoaaDoor.Rc
