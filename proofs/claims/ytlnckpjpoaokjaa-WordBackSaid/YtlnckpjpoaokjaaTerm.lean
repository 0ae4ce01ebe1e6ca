/- A term in memory, of whatever depth: as a tree. -/
import Derived.Test.YtlnckpjpoaokjaaFrame
import Derived.Test.YtlnckpjpoaokjaaProg
import Derived.WalkKit
import Derived.Lib.Hide
namespace Go.Proofs.Ytlnckpjpoaokjaa
open Go.RowKit

/-- a term as a tree: kind, number, name, items, rest, bytes -/
inductive Tm where
  | mk (k n : Int) (s : ByteArray) (items rest : List Tm) (bytes : List UInt8)

/-- a slice of bytes, in blocks of F -/
def BytesAt (F : Nat → Prop) (w : World) (l : List UInt8) (v : Value) : Prop :=
  ∃ po cap, v = .slice po l.length cap ∧ l.length ≤ cap ∧ l.length ≤ 140737488351232 ∧
    ∀ (i : Nat) (c : UInt8), l[i]? = some c → ∃ b off, po = some ⟨b, off, none⟩ ∧ F b ∧ w.cell? ⟨b, off + i, none⟩ = some (.int .u8 c.toNat)

/-- a slice of terms, each of which is as p says -/
def ListAt (F : Nat → Prop) (w : World) (p : Tm → List Value → Prop) (l : List Tm) (v : Value) : Prop :=
  ∃ po cap, v = .slice po l.length cap ∧ l.length ≤ cap ∧ l.length * 104 ≤ 140737488351232 ∧
    ∀ (i : Nat) (t : Tm), l[i]? = some t → ∃ b off c0 c1 c2 c3 c4 c5, po = some ⟨b, off, none⟩ ∧ F b ∧
      w.cell? ⟨b, off + i * 6, none⟩ = some c0 ∧ w.cell? ⟨b, off + i * 6 + 1, none⟩ = some c1 ∧ w.cell? ⟨b, off + i * 6 + 2, none⟩ = some c2 ∧
      w.cell? ⟨b, off + i * 6 + 3, none⟩ = some c3 ∧ w.cell? ⟨b, off + i * 6 + 4, none⟩ = some c4 ∧ w.cell? ⟨b, off + i * 6 + 5, none⟩ = some c5 ∧
      p t [c0, c1, c2, c3, c4, c5]

/-- a term of a height below h, in six cells, what hangs on it in blocks of F -/
def TermAt (F : Nat → Prop) (w : World) : Nat → Tm → List Value → Prop
  | 0, _, _ => False
  | h + 1, .mk k n s it re bys, cs => ∃ vi vr vb, cs = [.int .i64 k, .int .i64 n, .string s, vi, vr, vb] ∧
      (-9223372036854775808 ≤ k ∧ k ≤ 9223372036854775807 ∧ -9223372036854775808 ≤ n ∧ n ≤ 9223372036854775807 ∧ s.size ≤ maxLen) ∧
      ListAt F w (TermAt F w h) it vi ∧ ListAt F w (TermAt F w h) re vr ∧ BytesAt F w bys vb

theorem ListAt.imp {F G : Nat → Prop} {w w' : World} {p q : Tm → List Value → Prop} {l : List Tm} {v : Value} (h : ListAt F w p l v)
    (hF : ∀ b, F b → G b) (hc : ∀ b j u, F b → w.cell? ⟨b, j, none⟩ = some u → w'.cell? ⟨b, j, none⟩ = some u) (hp : ∀ t cs, p t cs → q t cs) : ListAt G w' q l v := by
  obtain ⟨po, cap, h1, h2, h3, h4⟩ := h
  refine ⟨po, cap, h1, h2, h3, fun i t hi => ?_⟩
  obtain ⟨b, off, c0, c1, c2, c3, c4, c5, e, hb, d0, d1, d2, d3, d4, d5, hpt⟩ := h4 i t hi
  exact ⟨b, off, c0, c1, c2, c3, c4, c5, e, hF b hb, hc _ _ _ hb d0, hc _ _ _ hb d1, hc _ _ _ hb d2, hc _ _ _ hb d3, hc _ _ _ hb d4, hc _ _ _ hb d5, hp _ _ hpt⟩
theorem BytesAt.imp {F G : Nat → Prop} {w w' : World} {l : List UInt8} {v : Value} (h : BytesAt F w l v)
    (hF : ∀ b, F b → G b) (hc : ∀ b j u, F b → w.cell? ⟨b, j, none⟩ = some u → w'.cell? ⟨b, j, none⟩ = some u) : BytesAt G w' l v := by
  obtain ⟨po, cap, h1, h2, h3, h4⟩ := h
  refine ⟨po, cap, h1, h2, h3, fun i t hi => ?_⟩
  obtain ⟨b, off, e, hb, d0⟩ := h4 i t hi
  exact ⟨b, off, e, hF b hb, hc _ _ _ hb d0⟩
theorem TermAt.imp {F G : Nat → Prop} {w w' : World} (hF : ∀ b, F b → G b) (hc : ∀ b j u, F b → w.cell? ⟨b, j, none⟩ = some u → w'.cell? ⟨b, j, none⟩ = some u) :
    ∀ (h : Nat) (t : Tm) (cs : List Value), TermAt F w h t cs → TermAt G w' h t cs
  | 0, _, _, ht => ht
  | h + 1, .mk _ _ _ _ _ _, _, ht => by
    obtain ⟨vi, vr, vb, e, hb, h1, h2, h3⟩ := ht
    exact ⟨vi, vr, vb, e, hb, h1.imp hF hc (TermAt.imp hF hc h), h2.imp hF hc (TermAt.imp hF hc h), h3.imp hF hc⟩
theorem cells_kp {F G : Nat → Prop} {w w' : World} (hk : Kp G w w') (hd : ∀ q, F q → ¬ G q) (b j : Nat) (u : Value) (hb : F b) (hc : w.cell? ⟨b, j, none⟩ = some u) : w'.cell? ⟨b, j, none⟩ = some u :=
  (hk.cell (World.block_lt_of_cell? _ _ hc) (hd b hb)).trans hc
theorem TermAt.kp {F G : Nat → Prop} {w w' : World} {h : Nat} {t : Tm} {cs : List Value} (ht : TermAt F w h t cs) (hk : Kp G w w') (hd : ∀ q, F q → ¬ G q) : TermAt F w' h t cs :=
  TermAt.imp (fun _ e => e) (cells_kp hk hd) h t cs ht
theorem TermAt.up {F : Nat → Prop} {w : World} : ∀ {h : Nat} {t : Tm} {cs : List Value}, TermAt F w h t cs → TermAt F w (h + 1) t cs
  | 0, _, _, ht => ht.elim
  | h + 1, .mk _ _ _ _ _ _, _, ht => by
    obtain ⟨vi, vr, vb, e, hb, h1, h2, h3⟩ := ht
    exact ⟨vi, vr, vb, e, hb, h1.imp (fun _ e => e) (fun _ _ _ _ e => e) (fun _ _ e => TermAt.up e), h2.imp (fun _ e => e) (fun _ _ _ _ e => e) (fun _ _ e => TermAt.up e), h3⟩
theorem ListAt.form {F : Nat → Prop} {w : World} {p : Tm → List Value → Prop} {l : List Tm} {v : Value} (h : ListAt F w p l v) : ∃ po len cap, v = .slice po len cap := by
  obtain ⟨po, cap, e, _⟩ := h
  exact ⟨po, _, cap, e⟩
theorem BytesAt.form {F : Nat → Prop} {w : World} {l : List UInt8} {v : Value} (h : BytesAt F w l v) : ∃ po len cap, v = .slice po len cap := by
  obtain ⟨po, cap, e, _⟩ := h
  exact ⟨po, _, cap, e⟩
theorem TermAt.form {F : Nat → Prop} {w : World} {h : Nat} {t : Tm} {cs : List Value} (ht : TermAt F w h t cs) :
    ∃ k n s a l c a2 l2 d a3 l3 e, cs = [.int .i64 k, .int .i64 n, .string s, .slice a l c, .slice a2 l2 d, .slice a3 l3 e] := by
  cases h with
  | zero => exact ht.elim
  | succ h =>
    obtain ⟨k, n, s, it, re, bys⟩ := t
    obtain ⟨vi, vr, vb, rfl, _, ⟨po, cap, rfl, _⟩, ⟨po2, cap2, rfl, _⟩, ⟨po3, cap3, rfl, _⟩⟩ := ht
    exact ⟨_, _, _, _, _, _, _, _, _, _, _, _, rfl⟩
theorem form_one {k n : Int} {s : ByteArray} {a a2 a3 : Option Addr} {l c l2 d l3 e : Nat} : ∀ u ∈ [Value.int .i64 k, .int .i64 n, .string s, .slice a l c, .slice a2 l2 d, .slice a3 l3 e], u.oneCell' = true := by
  intro u hu
  simp at hu
  rcases hu with rfl | rfl | rfl | rfl | rfl | rfl <;> rfl
/-- its blocks are there -/
theorem TermAt.low {F : Nat → Prop} {w : World} : ∀ {h : Nat} {t : Tm} {cs : List Value}, TermAt F w h t cs → TermAt (fun q => F q ∧ q < w.heap.size) w h t cs
  | 0, _, _, ht => ht
  | h + 1, .mk _ _ _ _ _ _, _, ht => by
    obtain ⟨vi, vr, vb, e, hb, ⟨po, cap, e1, a1, a2, a3⟩, ⟨po2, cap2, e2, b1, b2, b3⟩, ⟨po3, cap3, e3, c1, c2, c3⟩⟩ := ht
    refine ⟨vi, vr, vb, e, hb, ⟨po, cap, e1, a1, a2, fun i t hi => ?_⟩, ⟨po2, cap2, e2, b1, b2, fun i t hi => ?_⟩, ⟨po3, cap3, e3, c1, c2, fun i t hi => ?_⟩⟩
    · obtain ⟨b, off, q0, q1, q2, q3, q4, q5, e4, hF, d0, d1, d2, d3, d4, d5, hp⟩ := a3 i t hi
      exact ⟨b, off, q0, q1, q2, q3, q4, q5, e4, ⟨hF, World.block_lt_of_cell? _ _ d0⟩, d0, d1, d2, d3, d4, d5, TermAt.low hp⟩
    · obtain ⟨b, off, q0, q1, q2, q3, q4, q5, e4, hF, d0, d1, d2, d3, d4, d5, hp⟩ := b3 i t hi
      exact ⟨b, off, q0, q1, q2, q3, q4, q5, e4, ⟨hF, World.block_lt_of_cell? _ _ d0⟩, d0, d1, d2, d3, d4, d5, TermAt.low hp⟩
    · obtain ⟨b, off, e4, hF, d0⟩ := c3 i t hi
      exact ⟨b, off, e4, ⟨hF, World.block_lt_of_cell? _ _ d0⟩, d0⟩
end Go.Proofs.Ytlnckpjpoaokjaa
