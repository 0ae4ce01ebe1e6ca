/- Slices of integers that came in, with a bound on their length; slices of pairs of integers. -/
import Derived.Test.YtbdogiblndlimaaIn
import Derived.OpenShut
import Derived.Deep.Slices
import Derived.Deep.Fields
import Derived.ChangeSame
import Derived.SizedLaws
namespace Go.Proofs.Ytbdogiblndlimaa
open Go.ChangeShapes Go.WideShapes Go.Deep Go.RowKit

/-- integers that came in, and how many there may be -/
def InRowZ (w : World) (a : Option Addr) (len : Nat) (f : Nat → Int) : Prop := InRow w a len f ∧ len ≤ 17592186043904
/-- a slice of pairs of integers that came in: what its elements read as -/
def PairsIn (w : World) (a : Option Addr) (len cap : Nat) (f g : Nat → Int) : Prop :=
  len ≤ cap ∧ cap ≤ 9223372036854775807 ∧ len ≤ 8796093021952 ∧ ∀ k, k < len → ∃ b off, a = some ⟨b, off, none⟩ ∧ b < w.heap.size ∧ w.cell? ⟨b, off + k * 2, none⟩ = some (.int .i64 (f k)) ∧ w.cell? ⟨b, off + k * 2 + 1, none⟩ = some (.int .i64 (g k)) ∧
    (-9223372036854775808 ≤ f k ∧ f k ≤ 9223372036854775807) ∧ (-9223372036854775808 ≤ g k ∧ g k ≤ 9223372036854775807)
theorem PairsIn.at' {w wr : World} {a : Option Addr} {len cap : Nat} {f g : Nat → Int} (h : PairsIn w a len cap f g) (hk : Kp (fun _ => False) w wr) (k : Nat) (hlt : k < len) :
    ∃ b off, a = some ⟨b, off, none⟩ ∧ wr.cell? ⟨b, off + k * 2, none⟩ = some (.int .i64 (f k)) ∧ wr.cell? ⟨b, off + k * 2 + 1, none⟩ = some (.int .i64 (g k)) ∧
      (-9223372036854775808 ≤ f k ∧ f k ≤ 9223372036854775807) ∧ (-9223372036854775808 ≤ g k ∧ g k ≤ 9223372036854775807) := by
  obtain ⟨b, off, h1, h2, h3, h4, h5⟩ := h.2.2.2 k hlt
  exact ⟨b, off, h1, (hk.cell (p := ⟨b, off + k * 2, none⟩) h2 (fun e => e)).trans h3, (hk.cell (p := ⟨b, off + k * 2 + 1, none⟩) h2 (fun e => e)).trans h4, h5⟩

section
variable {H : Type} {enc : TypeId × Value → H} {P : Program} {w : World} {base : Nat} {spare : Nat → Bool} {held : Bool}
theorem opened_intsz {t e : TypeId} {fuel : Nat} {v : Value} {y : DataW H × List MemPlace} (ht : P.underlying t = some (.slice e)) (he : P.underlying e = some (.int .i64)) (hc : P.cellsOf e = 1) (hb : P.bytesOf e = 8)
    (hs : ∀ n ∈ y.1.weights P t, n ≤ reachBytes)
    (h : DataW.trod enc P w base spare held fuel t [v] = some y) : ∃ po len cap f, v = .slice po len cap ∧ InRowZ w po len f := by
  rcases open_ints ht he hc h with ⟨h1, _⟩ | ⟨a, len, cap, zs, h1, _, h3, h4, h5, hy, h6, h7⟩
  · injection h1 with h1
    exact ⟨none, 0, 0, fun _ => 0, h1, by unfold InRow; exact ⟨by omega, fun k hk => by omega⟩, by omega⟩
  · injection h1 with h1
    have hle : len ≤ zs.length := by rw [h5]; split <;> omega
    refine ⟨some a, len, cap, fun k => zs.getD k 0, h1, ⟨by unfold maxLen at h4; omega, fun k hk => ?_⟩, ?_⟩
    · obtain ⟨b, off, rfl, hc⟩ := ints_at h6 (by omega)
      have hk' := hc k (by omega)
      refine ⟨b, off, rfl, World.block_lt_of_cell? _ _ hk', hk', ?_⟩
      have hm : zs.getD k 0 ∈ zs := by
        have : k < zs.length := by omega
        rw [List.getD_eq_getElem?_getD, List.getElem?_eq_getElem this]
        exact List.getElem_mem this
      exact bounds_i64 (h7 _ hm)
    · subst hy
      have := hs (((lits (H := H) .i64 (zs.take len)).length + (lits (H := H) .i64 (zs.drop len)).length) * P.bytesOf e) (by simp [DataW.weights, ht])
      rw [hb] at this
      have e1 : (lits (H := H) .i64 (zs.take len)).length = len := by simp [lits]; omega
      unfold reachBytes at this
      omega
theorem trod_pair {e i : TypeId} {fuel : Nat} {cs : List Value} {d : DataW H} {ps : List MemPlace} (he : P.underlying e = some (.array 2 i)) (hi : P.underlying i = some (.int .i64)) (h1 : P.cellsOf i = 1) (hC : P.cellsOf e = 2) (hl : cs.length = 2) (hf : DataW.trod enc P w base spare held fuel e cs = some (d, ps)) :
    ∃ a b : Int, cs = [.int .i64 a, .int .i64 b] ∧ (Lit.int .i64 a).wf = true ∧ (Lit.int .i64 b).wf = true := by
  match cs, hl with
  | [c0, c1], _ =>
    cases fuel with
    | zero => simp [DataW.trod] at hf
    | succ n =>
      rw [DataW.trod_step] at hf
      unfold DataW.trodStep at hf
      simp only [he] at hf
      rw [if_pos (by rw [hC]; rfl)] at hf
      simp only [Option.map_eq_some_iff] at hf
      obtain ⟨xs, hx, e1⟩ := hf
      rw [show List.range 2 = [0, 1] from rfl, List.mapM_cons, List.mapM_cons, List.mapM_nil] at hx
      simp only [bind, Option.bind_eq_some_iff, pure, Option.some.injEq, h1] at hx
      obtain ⟨y0, h0, _, ⟨y1, h2, _, rfl, rfl⟩, rfl⟩ := hx
      obtain ⟨a, ea, rfl, wa⟩ := DataW.trod_int hi h0
      obtain ⟨b, eb, rfl, wb⟩ := DataW.trod_int hi h2
      simp at ea eb
      exact ⟨a, b, by rw [ea, eb], wa, wb⟩
theorem opened_pairs {t e i : TypeId} {fuel : Nat} {cs : List Value} {x : DataW H × List MemPlace} (ht : P.underlying t = some (.slice e)) (he : P.underlying e = some (.array 2 i)) (hi : P.underlying i = some (.int .i64)) (h1 : P.cellsOf i = 1) (hC : P.cellsOf e = 2) (hb : P.bytesOf e = 16)
    (hs : ∀ n ∈ x.1.weights P t, n ≤ reachBytes)
    (h : DataW.trod enc P w base spare held fuel t cs = some x) : ∃ po len cap f g, cs = [.slice po len cap] ∧ PairsIn w po len cap f g := by
  rcases open_slice ht h with ⟨h0, _⟩ | ⟨a, len, cap, m, n, D, Pl, hcs, hbb, hl, hm, hmm, hx, hi2⟩
  · exact ⟨none, 0, 0, fun _ => 0, fun _ => 0, h0, Nat.le_refl _, by omega, by omega, fun i hi => by omega⟩
  · subst hx
    have hn0 := hs ((((List.range len).map D).length + ((List.range (m - len)).map fun j => D (len + j)).length) * P.bytesOf e) (by simp [DataW.weights, ht])
    rw [hb] at hn0
    simp only [List.length_map, List.length_range] at hn0
    unfold reachBytes at hn0
    have hlm : len ≤ m := by rw [hmm]; split <;> omega
    have key : ∀ k, k < m → ∃ p : Int × Int, ∃ b off, a = ⟨b, off, none⟩ ∧ b < w.heap.size ∧ w.cell? ⟨b, off + k * 2, none⟩ = some (.int .i64 p.1) ∧ w.cell? ⟨b, off + k * 2 + 1, none⟩ = some (.int .i64 p.2) ∧ (Lit.int .i64 p.1).wf = true ∧ (Lit.int .i64 p.2).wf = true := by
      intro k hk
      obtain ⟨b, off, spot⟩ := a
      obtain ⟨cs', hc, ht'⟩ := hi2 k hk
      rw [hC] at hc
      obtain ⟨_, hcl, hat⟩ := World.cells?_some hc
      have hspot : spot = none := by
        obtain ⟨cs2, hc2, -⟩ := hi2 0 (by omega)
        rw [hC] at hc2
        obtain ⟨_, hcl2, hat2⟩ := World.cells?_some hc2
        have h0 := hat2 0 (by omega)
        rw [List.getElem?_eq_getElem (show 0 < cs2.length by omega)] at h0
        simpa [Addr.add] using World.cell?_spot h0
      subst hspot
      obtain ⟨p, q, rfl, wp, wq⟩ := trod_pair he hi h1 hC hcl ht'
      have h0 := hat 0 (by omega)
      have h2 := hat 1 (by omega)
      rw [add_plain, add_plain] at h0 h2
      have h0' : w.cell? ⟨b, off + k * 2, none⟩ = some (.int .i64 p) := h0
      exact ⟨(p, q), b, off, rfl, World.block_lt_of_cell? _ _ h0', h0', h2, wp, wq⟩
    refine ⟨some a, len, cap, fun k => if hk : k < m then (Classical.choose (key k hk)).1 else 0, fun k => if hk : k < m then (Classical.choose (key k hk)).2 else 0, hcs, hl, by unfold maxLen at hm; omega, by omega, fun k hk => ?_⟩
    have hkm : k < m := by omega
    simp only [dif_pos hkm]
    obtain ⟨b, off, h2, h3, h4, h5, h6, h7⟩ := Classical.choose_spec (key k hkm)
    exact ⟨b, off, by rw [h2], h3, h4, h5, bounds_i64 h6, bounds_i64 h7⟩
end
end Go.Proofs.Ytbdogiblndlimaa
