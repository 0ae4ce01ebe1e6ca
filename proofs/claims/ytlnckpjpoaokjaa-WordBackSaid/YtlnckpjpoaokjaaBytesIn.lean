/- A slice of bytes that came in. -/
import Derived.Test.YtlnckpjpoaokjaaBytes
import Derived.OpenShut
namespace Go.Proofs.Ytlnckpjpoaokjaa
open Go.RowKit

def BIn (w : World) (a : Option Addr) (len cap : Nat) (f : Nat → UInt8) : Prop :=
  len ≤ cap ∧ cap ≤ 9223372036854775807 ∧ ∀ k, k < len → ∃ b off, a = some ⟨b, off, none⟩ ∧ b < w.heap.size ∧ w.cell? ⟨b, off + k, none⟩ = some (.int .u8 (f k).toNat)

/-- the first m of them -/
def bl (f : Nat → UInt8) (m : Nat) : List UInt8 := (List.range m).map f
theorem bl_len (f : Nat → UInt8) (m : Nat) : (bl f m).length = m := by simp [bl]
theorem bl_get {f : Nat → UInt8} {m i : Nat} {c : UInt8} (h : (bl f m)[i]? = some c) : i < m ∧ c = f i := by
  have hl := (List.getElem?_eq_some_iff.1 h).1
  rw [bl_len] at hl
  refine ⟨hl, ?_⟩
  simp [bl, hl] at h
  exact h.symm

theorem bIn_of {w : World} {x : Addr} {len cap : Nat} {zs : List Int} (h1 : len ≤ cap) (h2 : cap ≤ maxLen) (h3 : len ≤ zs.length) (h4 : ∀ i, i < zs.length → w.cell? (x.add i) = some (.int .u8 (zs.getD i 0))) (h5 : ∀ n ∈ zs, (Lit.int .u8 n).wf = true) :
    BIn w (some x) len cap (fun k => UInt8.ofNat (zs.getD k 0).toNat) := by
  refine ⟨h1, by unfold maxLen at h2; omega, fun k hk => ?_⟩
  obtain ⟨b, off, rfl, hc⟩ := ints_at h4 (by omega)
  have hk' := hc k (by omega)
  refine ⟨b, off, rfl, World.block_lt_of_cell? _ _ hk', ?_⟩
  have hm : zs.getD k 0 ∈ zs := by
    have : k < zs.length := by omega
    rw [List.getD_eq_getElem?_getD, List.getElem?_eq_getElem this]
    exact List.getElem_mem this
  have hw := h5 _ hm
  obtain ⟨z, hz⟩ : ∃ z, zs.getD k 0 = z := ⟨_, rfl⟩
  show _ = some (Value.int .u8 (UInt8.ofNat (zs.getD k 0).toNat).toNat)
  rw [hz] at hk' hw ⊢
  have hb := bounds_u8 hw
  rw [hk']
  congr 2
  rw [UInt8.toNat_ofNat']
  omega

theorem BIn.at' {w : World} {a : Option Addr} {len cap : Nat} {f : Nat → UInt8} (h : BIn w a len cap f) {m c : Nat} (hm : m ≤ len) (hM : m ≤ 140737488351232) (hc : m ≤ c) : BytesAt (fun q => q < w.heap.size) w (bl f m) (.slice a m c) := by
  refine ⟨a, c, by rw [bl_len], by rw [bl_len]; exact hc, by rw [bl_len]; exact hM, fun i x hi => ?_⟩
  obtain ⟨him, rfl⟩ := bl_get hi
  obtain ⟨b, off, h1, h2, h3⟩ := h.2.2 i (by omega)
  exact ⟨b, off, h1, h2, h3⟩
theorem bIn_nil (w : World) (f : Nat → UInt8) : BIn w none 0 0 f := ⟨by omega, by omega, fun k hk => by omega⟩
end Go.Proofs.Ytlnckpjpoaokjaa
