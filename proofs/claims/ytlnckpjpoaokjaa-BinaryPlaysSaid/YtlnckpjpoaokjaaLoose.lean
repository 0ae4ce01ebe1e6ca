/- Bytes of one's own that are written, beside a heap of binaries. -/
import Derived.Test.YtlnckpjpoaokjaaAwake5
import Derived.Test.YtlnckpjpoaokjaaBytesIn
namespace Go.Proofs.Ytlnckpjpoaokjaa
open Go.RowKit

/-- so many bytes, in blocks of G, that may be written -/
def Loose (G : Nat → Prop) (w : World) (po : Option Addr) (n : Nat) : Prop :=
  ∀ k, k < n → ∃ g off x, po = some ⟨g, off, none⟩ ∧ G g ∧ g < w.heap.size ∧ w.cell? ⟨g, off + k, none⟩ = some (.int .u8 x) ∧ 0 ≤ x ∧ x ≤ 255 ∧ w.frozen? ⟨g, off + k, none⟩ = false

theorem BytesAt.form' {F : Nat → Prop} {w : World} {l : List UInt8} {v : Value} (h : BytesAt F w l v) {m : Nat} (hl : l.length = m) : ∃ po cap, v = .slice po m cap := by
  obtain ⟨po, cap, e, _⟩ := h
  exact ⟨po, cap, by rw [e, hl]⟩
theorem loose_of {G : Nat → Prop} {w : World} {l : List UInt8} {po : Option Addr} {n cap : Nat} (h : BytesAt (Byt G w) w l (.slice po n cap)) : Loose G w po n := by
  obtain ⟨po2, cap2, e, h2, h3, h4⟩ := h
  injection e with e e1 e2
  subst e e1
  intro k hk
  obtain ⟨b, off, e, hb, hc⟩ := h4 k l[k] (List.getElem?_eq_getElem hk)
  obtain ⟨cs, hcs⟩ := hb.2
  exact ⟨b, off, _, e, hb.1, (Array.getElem?_eq_some_iff.1 hcs).1, hc, by omega, by have := l[k].toNat_lt; omega, frozen_of hcs _⟩
theorem Loose.set {G : Nat → Prop} {w : World} {po : Option Addr} {n : Nat} (h : Loose G w po n) {g off k : Nat} (hpo : po = some ⟨g, off, none⟩) (hk : k < n) {x : Int} (h0 : 0 ≤ x) (h1 : x ≤ 255) :
    Loose G (w.setCell ⟨g, off + k, none⟩ (.int .u8 x)) po n := by
  intro j hj
  obtain ⟨g', off', y, e, hG, hlt, hc, y0, y1, hf⟩ := h j hj
  rw [hpo] at e
  injection e with e
  rw [Addr.mk.injEq] at e
  obtain ⟨rfl, rfl, _⟩ := e
  by_cases hjk : j = k
  · subst hjk
    exact ⟨g, off, x, hpo, hG, by simpa [World.setCell] using hlt, World.cell?_setCell_same _ _ _ hc, h0, h1, by rw [World.frozen?_setCell]; exact hf⟩
  · exact ⟨g, off, y, hpo, hG, by simpa [World.setCell] using hlt, by rw [World.cell?_setCell_other _ _ _ _ (fun e => by have e' := congrArg Addr.off e; simp only at e'; omega)]; exact hc, y0, y1, by rw [World.frozen?_setCell]; exact hf⟩
theorem Loose.kp {G H : Nat → Prop} {w w' : World} {po : Option Addr} {n : Nat} (h : Loose G w po n) (hk : Kp H w w') (hd : ∀ q, G q → ¬ H q) : Loose G w' po n := by
  intro k hkn
  obtain ⟨g, off, x, e, hG, hlt, hc, h0, h1, hf⟩ := h k hkn
  exact ⟨g, off, x, e, hG, Nat.lt_of_lt_of_le hlt hk.size, (hk.cell (p := ⟨g, off + k, none⟩) hlt (hd g hG)).trans hc, h0, h1, (hk.frozen (p := ⟨g, off + k, none⟩) hlt (hd g hG)).trans hf⟩

section
variable {w wr w2 : World} {b N M : Nat} {a a' : Bn} {F G : Nat → Prop}
theorem Solo.beside (h : Solo w wr b N a F) (hk : Kp G wr w2) (hd : ∀ q, F q → ¬ G q) (hn : ∀ q, G q → w.heap.size ≤ q) : Solo w w2 b N a F :=
  ⟨h.at'.kp hk hd, h.inv, h.new, h.kp.trans (hk.mono fun q hq hG => .inr ⟨hn q hG, hq⟩)⟩

/-- a heap of binaries, and bytes beside it that may be written -/
structure Duo8 (w wr : World) (b N : Nat) (a : Bn) (F G : Nat → Prop) (po : Option Addr) (n : Nat) : Prop where
  solo : Solo w wr b N a F
  loose : Loose G wr po n
  apart : ∀ q, F q → ¬ G q
  new : ∀ q, G q → w.heap.size ≤ q
theorem Duo8.set {po : Option Addr} {n : Nat} (h : Duo8 w wr b N a F G po n) {g off k : Nat} (hpo : po = some ⟨g, off, none⟩) (hk : k < n) {x : Int} (h0 : 0 ≤ x) (h1 : x ≤ 255) :
    Duo8 w (wr.setCell ⟨g, off + k, none⟩ (.int .u8 x)) b N a F G po n := by
  obtain ⟨g', off', y, e, hG, _⟩ := h.loose k hk
  rw [hpo] at e
  injection e with e
  rw [Addr.mk.injEq] at e
  obtain ⟨rfl, rfl, _⟩ := e
  exact ⟨h.solo.beside ((Kp.refl G wr).setCell _ _ (.inl hG)) h.apart h.new, h.loose.set hpo hk h0 h1, h.apart, h.new⟩
theorem Duo8.drewN {po : Option Addr} {n : Nat} (h : Duo8 w wr b N a F G po n) (j : Nat) : Duo8 w (wr.drewN j) b N a F G po n :=
  ⟨h.solo.same (Kp.drewN' (Kp.refl _ wr) j), h.loose.kp (Kp.drewN' (Kp.refl (fun _ => False) wr) j) (fun _ _ e => e), h.apart, h.new⟩
end
end Go.Proofs.Ytlnckpjpoaokjaa
