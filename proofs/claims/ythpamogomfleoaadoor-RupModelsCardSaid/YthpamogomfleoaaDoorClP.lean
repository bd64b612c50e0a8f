/- The law ClauseForms as a contract: a normal form is its own normal form, has each number once, and just the numbers of its clause. -/
import Derived.Test.YthpamogomfleoaaDoorClM
import Derived.Deep.RegionWith
namespace Go.Proofs.YthpamogomfleoaaDoor.Cl
open Go Go.RowKit Go.Lib Go.Sort

theorem nf_nf (zs : List Int) : nf (nf zs) = nf zs := (isNf_nf (nf zs)).unique swo_cf ⟨(isNf_nf zs).1, fun _ => Iff.rfl⟩
theorem mem_nf (x : Int) (zs : List Int) : x ∈ nf zs ↔ x ∈ zs := (isNf_nf zs).2 x
theorem rightB_nf {zs : List Int} (h : rightB zs = true) : rightB (nf zs) = true := by
  unfold rightB at *; rw [List.all_eq_true] at *; exact fun x hx => h x ((mem_nf x zs).1 hx)
theorem normL_yes {zs : List Int} (h : rightB zs = true) : normL zs = nf zs := by simp [normL, h]
theorem normX_yes {zs : List Int} (h : rightB zs = true) : normX zs = oppB (nf zs) := by simp [normX, h]
/-- No number stands twice in a normal form. -/
theorem nf_once {zs : List Int} {k : Nat} (hk : k < (nf zs).length) : inB (nf zs)[k]! ((nf zs).take k) = false := by
  rw [← Bool.not_eq_true, inB_iff]
  intro h
  obtain ⟨j, hj, e⟩ := List.mem_iff_getElem.1 h
  rw [List.length_take] at hj
  rw [List.getElem_take, getElem!_pos _ k hk] at e
  have := List.pairwise_iff_getElem.1 (isNf_nf zs).1 j k (by omega) hk (by omega)
  rw [e, swo_cf.irrefl] at this
  exact absurd this (by simp)

/-- What the two calls of Norm leave. -/
def Twice (w : World) (zs : List Int) (e : Ending) (w' : World) : Prop :=
  ∃ a c, e = .returned (.tuple #[.slice a (nf zs).length c, .bool (oppB (nf zs))]) ∧ RowIn (Value.int .i64) w' a (nf zs) ∧ (nf zs).length ≤ c ∧ Below w.heap.size w w'
theorem Norm_yes (a : Option Addr) (c : Nat) (zs : List Int) (w : World) (hr : RowIn (Value.int .i64) w a zs) (hl : zs.length ≤ 1000) (h : rightB zs = true) :
    Calls Tryd.prog 40 #[.slice a zs.length c] w (Twice w zs) :=
  (Norm_any a c zs w hr hl).mono fun e w' ⟨a', c', h1, h2, h4, h3⟩ => by
    rw [normL_yes h, normX_yes h] at h1; rw [normL_yes h] at h2 h4; exact ⟨a', c', h1, h2, h4, h3⟩

end Go.Proofs.YthpamogomfleoaaDoor.Cl
